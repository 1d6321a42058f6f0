/- What WindowMirrors says, over what package window answers. -/
import Derived.Test.YtbdglbpkbpedoaaLaw19
import Derived.BigRegion
namespace Go.Proofs.Ytbdglbpkbpedoaa
open Go.ChangeShapes Go.WideShapes Go.ChangeAt Go.RowKit
set_option linter.unusedVariables false
set_option linter.unusedSimpArgs false
set_option maxRecDepth 100000

set_option maxHeartbeats 4000000 in
theorem mirrors19_of (a0 a1 a2 r0 q0 K r1 q1 s1 G r2 q2 s2 B O : Int) (n h : Nat) (T : Nat → Int)
    (HN : Hid ((a0.tmod 4 = r0 ∧ wrap64 (r0 + 4) = q0 ∧ q0.tmod 4 = K) ∧ (a1.tmod 5 = r1 ∧ wrap64 (r1 + 5) = q1 ∧ q1.tmod 5 = s1 ∧ wrap64 (s1 + 2) = G) ∧ (a2.tmod 28 = r2 ∧ wrap64 (r2 + 28) = q2 ∧ q2.tmod 28 = s2 ∧ wrap64 (s2 + 13) = B)))
    (HG : Hid (∀ W, (Op.shift .shl .i64 1 .i64 G).run Try.prog W = .ok (.int .i64 (n : Int)) W)) (HO : Hid (∀ W, (Op.shift .shl .i64 1 .i64 B).run Try.prog W = .ok (.int .i64 O) W))
    (hn : Hid (4 ≤ n ∧ n ≤ 64 ∧ (n : Int) / 2 = h)) (hK : Hid (0 ≤ K ∧ K ≤ 3))
    (HT : Hid (∀ W, Calls Try.prog 7 #[.int .i64 K, .int .i64 G, .int .i64 B] W fun e w' => ∃ v, e = .returned (.tuple #[v, .int .i64 0]) ∧ NumsAt w' v ((List.range n).map T) ∧ Gr W w')) (AL : Hid (∀ W, Calls Try.prog 10 #[] W fun e w' => e = .returned (.bool true) ∧ Gr W w'))
    (HP : Hid (∀ k, k < n → ∃ d m3 : Nat, ∃ b O1 : Int, (k + h) % n = d ∧ d < n ∧ wrap64 (T k + T d) = b ∧ (n - k) % n = m3 ∧ m3 < n ∧ T m3 = T k ∧ 0 ≤ T k ∧ T k ≤ O ∧ wrap64 (O + 1) = O1 ∧ ¬ O1 = O ∧ (K = 1 → b = O ∨ b = O1) ∧ (K = 0 → T k = O)))
    (w : World) : Calls Try.prog 5 #[.int .i64 a0, .int .i64 a1, .int .i64 a2] w fun e w' => e = .returned (.bool true) ∧ Gr w w' := by
  obtain ⟨⟨x1, x2, x3⟩, ⟨x4, x5, x6, x7⟩, x8, x9, xa, xb⟩ := HN.out
  have hsg := HG.out
  have heq := show ((n : Int) != (n : Int)) = false by simp
  go_enter Try.func5, Try.ntmps5
  go_wp2_with fail
  rw [x7, xb]
  clear x1 x2 x3 x4 x5 x6 x7 x8 x9 xa xb HN
  refine (HT.out _).mono ?_
  rintro e w1 ⟨v, rfl, hv, gw1⟩
  obtain ⟨yb, yo, yc, hsl, _, hyb, hyc⟩ := hv.at (by have := hn.out; intro e; have := congrArg List.length e; simp at this; omega)
  rw [List.length_map, List.length_range] at hsl
  subst hsl
  go_wp2_with fail
  refine (AL.out _).mono ?_
  rintro e w3 ⟨rfl, gw3⟩
  have y3 := gw1.trans gw3
  have hyb3 : yb < w3.heap.size := Nat.lt_of_lt_of_le hyb gw3.size
  have HYC := Lib.hid (show ∀ k, k < n → w3.cell? ⟨yb, yo + k, none⟩ = some (.int .i64 (T k)) from fun k hk => (gw3.cell (p := ⟨yb, yo + k, none⟩) hyb).trans (hyc k _ (by rw [List.getElem?_map, List.getElem?_range hk]; rfl)))
  clear hv hyc hyb gw3 HT hsg heq
  go_wp2_with fail
  go_loopw [10, 11, 12, 51] (fun _ _ _ i wr => ∃ j : Nat, j ≤ n ∧ i = .int .i64 j ∧ Gr w3 wr) (fun _ _ _ i _ => n - (intOf i).toNat)
  case atStart => exact ⟨0, by omega, rfl, Gr.refl _⟩
  case round =>
    obtain ⟨j, hj, rfl, hg⟩ := hrel
    by_cases hlt : j < n
    · have hlI : (j : Int) < (n : Int) := by omega
      obtain ⟨d, m3, b, O1, e1, hd, e3, e4, hm3, hT3, t0, t1, e6, hne, hK1, hK0⟩ := HP.out j hlt
      have h1 := (hg.cell (p := ⟨yb, yo + j, none⟩) hyb3).trans (HYC.out j hlt)
      have h2 := (hg.cell (p := ⟨yb, yo + d, none⟩) hyb3).trans (HYC.out d hd)
      have h3 := (hg.cell (p := ⟨yb, yo + m3, none⟩) hyb3).trans (HYC.out m3 hm3)
      rw [hT3] at h3
      have hbl : yb < wr.heap.size := Nat.lt_of_lt_of_le hyb3 hg.size
      have hso := HO.out
      obtain ⟨_, _, eh⟩ := hn.out
      have hnz : ¬ (n : Int) = 0 := by omega
      have hdI : (d : Int) < (n : Int) := by omega
      have hmI : (m3 : Int) < (n : Int) := by omega
      have i1 : ((j : Int) + (h : Int)) % (n : Int) = (d : Int) := by rw [← e1]; rfl
      have i2 : ((n : Int) - (j : Int)) % (n : Int) = (m3 : Int) := by rw [← e4, Int.natCast_emod, Int.natCast_sub (by omega)]
      have i3 : ((j : Int) + (h : Int)).tmod (n : Int) = (d : Int) := by rw [Int.tmod_eq_emod_of_nonneg (by omega), i1]
      have i4 : ((n : Int) - (j : Int)).tmod (n : Int) = (m3 : Int) := by rw [Int.tmod_eq_emod_of_nonneg (by omega), i2]
      generalize T j = t at *
      generalize T d = td at *
      have hte := show (t != t) = false by simp
      have t2 : ¬ t < 0 := by omega
      have t3 : ¬ O < t := by omega
      clear hT3 HYC HP hd hm3 t0 t1
      rcases (show (K = 1 ∧ b = O) ∨ (K = 1 ∧ b = O1) ∨ (K = 0 ∧ t = O) ∨ (¬ K = 0 ∧ ¬ K = 1) by
        by_cases k1 : K = 1
        · rcases hK1 k1 with h | h
          · exact .inl ⟨k1, h⟩
          · exact .inr (.inl ⟨k1, h⟩)
        · by_cases k0 : K = 0
          · exact .inr (.inr (.inl ⟨k0, hK0 k0⟩))
          · exact .inr (.inr (.inr ⟨k0, k1⟩))) with ⟨k1, hb⟩ | ⟨k1, hb⟩ | ⟨k0, hb⟩ | ⟨k0, k1⟩
      · have c1 : (K == 1) = true := by simp [k1]
        have c0 : (K == 0) = false := by simp [k1]
        have c2 : (b != O) = false := by simp [hb]
        clear hK1 hK0 k1 hb hne
        go_wp2_with fail
        go_roundw
        case rel => exact ⟨j + 1, by omega, by go_num, hg⟩
        case measure => simp [intOf]; omega
      · have c1 : (K == 1) = true := by simp [k1]
        have c0 : (K == 0) = false := by simp [k1]
        have c2 : (b != O) = true := by simp [hb, hne]
        have c3 : (b != O1) = false := by simp [hb]
        clear hK1 hK0 k1 hb hne
        go_wp2_with fail
        go_roundw
        case rel => exact ⟨j + 1, by omega, by go_num, hg⟩
        case measure => simp [intOf]; omega
      · have c1 : (K == 1) = false := by simp [k0]
        have c0 : (K == 0) = true := by simp [k0]
        have c2 : (t != O) = false := by simp [hb]
        clear hK1 hK0 k0 hb hne
        go_wp2_with fail
        go_roundw
        case rel => exact ⟨j + 1, by omega, by go_num, hg⟩
        case measure => simp [intOf]; omega
      · have c1 : (K == 1) = false := by simp [k1]
        have c0 : (K == 0) = false := by simp [k0]
        clear hK1 hK0 k1 k0 hne
        go_wp2_with fail
        go_roundw
        case rel => exact ⟨j + 1, by omega, by go_num, hg⟩
        case measure => simp [intOf]; omega
    · obtain rfl : j = n := by omega
      have hlI : ¬ (j : Int) < (j : Int) := by omega
      clear HP HYC
      go_wp2_with fail
      go_ret
      exact ⟨rfl, y3.trans hg⟩

end Go.Proofs.Ytbdglbpkbpedoaa
