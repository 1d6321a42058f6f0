/- What reference 14's small functions answer. -/
import Derived.Test.YtmjghakodgihiaaBudgetMath
import Derived.Test.YtmjghakodgihiaaNums
import Derived.Test.YtmjghakodgihiaaGrow
namespace Go.Proofs.Ytmjghakodgihiaa
open Go.ChangeShapes Go.WideShapes Go.ChangeAt Go.RowKit
set_option linter.unusedVariables false
set_option linter.unusedSimpArgs false
set_option maxRecDepth 100000


theorem start14_c (fo lo ke sc mo : Int) (iv : Bool) (w : World) : Calls Try.prog 10 #[.agg #[.int .i64 fo, .int .i64 lo, .int .i64 ke, .int .i64 sc, .int .i64 mo, .bool iv]] w fun e w' => e = .returned (.int .i64 (startB sc)) ∧ Gr w w' := by
  by_cases h : sc = 0
  · subst h
    go_enter Try.func10, Try.ntmps10
    go_wp2_with fail
    go_ret
    exact ⟨rfl, by repeat (first | exact Gr.refl _ | apply Gr.drew | apply Gr.alloc)⟩
  · have h' : (sc == 0) = false := by simp [h]
    unfold startB
    rw [if_neg h]
    go_enter Try.func10, Try.ntmps10
    go_wp2_with fail
    go_ret
    exact ⟨rfl, by repeat (first | exact Gr.refl _ | apply Gr.drew | apply Gr.alloc)⟩


theorem up14_c (n s q : Int) (n0 : 0 ≤ n) (n1 : n ≤ 8796093022208) (s0 : 0 ≤ s) (s1 : s ≤ 3) (hq : upB n s.toNat = q) (w : World) : Calls Try.prog 27 #[.int .i64 n, .int .i64 s] w fun e w' => e = .returned (.int .i64 q) ∧ w' = w := by
  have hp := upB_pos n s.toNat n0 (by omega)
  have HF := Lib.hid (floor_c (-n) s (by omega) s0 (by omega))
  have he : -n / 2 ^ s.toNat = -q := by unfold upB at hq; omega
  rw [he] at HF
  rw [hq] at hp
  clear he hq
  go_enter Try.func27, Try.ntmps27
  go_wp2_with (go_at_call 34; refine (HF.out _).mono ?_; rintro e wz ⟨rfl, rfl⟩)
  go_ret
  exact ⟨by simp, rfl⟩


theorem step14_c (e k sc s : Int) (h : mayB e k sc s = true) (w : World) : Calls Try.prog 13 #[.int .i64 e, .int .i64 k, .int .i64 sc, .int .i64 s] w fun e' w' => e' = .returned (.int .i64 (stepB e k sc s)) ∧ w' = w := by
  obtain ⟨⟨h0, h1⟩, hk, ⟨h2, h3⟩, h4, h5⟩ := mayB_iff.1 h
  clear h
  by_cases hs : sc = 2
  · subst hs
    rcases hk with rfl | rfl
    · rw [show stepB e 2 2 s = 2 * e + 608 by simp [stepB]]
      go_enter Try.func13, Try.ntmps13
      go_wp2_with fail
      go_ret
      exact ⟨by first | rfl | (simp; done) | (simp; omega), rfl⟩
    · rw [show stepB e 4 2 s = 4 * e + 1632 by simp [stepB]]
      go_enter Try.func13, Try.ntmps13
      go_wp2_with fail
      go_ret
      exact ⟨by first | rfl | (simp; done) | (simp; omega), rfl⟩
  · have hs' : (sc == 2) = false := by simp [hs]
    rcases hk with rfl | rfl
    · rw [show stepB e 2 sc s = upB (2 * e) s.toNat + 224 by simp [stepB, hs]]
      obtain ⟨q, hq⟩ : ∃ q, upB (2 * e) s.toNat = q := ⟨_, rfl⟩
      have hp := upB_pos (2 * e) s.toNat (by omega) (by omega)
      rw [hq] at hp ⊢
      obtain ⟨hp1, hp2, hp3⟩ := hp
      have HU := Lib.hid (up14_c (2 * e) s q (by omega) (by omega) h4 h5 hq)
      clear hq
      go_enter Try.func13, Try.ntmps13
      go_wp2_with (go_at_call 27; refine (HU.out _).mono ?_; rintro e' wz ⟨rfl, rfl⟩)
      go_ret
      exact ⟨by first | rfl | (simp; done) | (simp; omega), rfl⟩
    · rw [show stepB e 4 sc s = upB (4 * e) s.toNat + 288 by simp [stepB, hs]]
      obtain ⟨q, hq⟩ : ∃ q, upB (4 * e) s.toNat = q := ⟨_, rfl⟩
      have hp := upB_pos (4 * e) s.toNat (by omega) (by omega)
      rw [hq] at hp ⊢
      obtain ⟨hp1, hp2, hp3⟩ := hp
      have HU := Lib.hid (up14_c (4 * e) s q (by omega) (by omega) h4 h5 hq)
      clear hq
      go_enter Try.func13, Try.ntmps13
      go_wp2_with (go_at_call 27; refine (HU.out _).mono ?_; rintro e' wz ⟨rfl, rfl⟩)
      go_ret
      exact ⟨by first | rfl | (simp; done) | (simp; omega), rfl⟩


set_option maxHeartbeats 4000000 in
theorem may14_c (e k sc s : Int) (w : World) : Calls Try.prog 12 #[.int .i64 e, .int .i64 k, .int .i64 sc, .int .i64 s] w fun e' w' => e' = .returned (.bool (mayB e k sc s)) ∧ w' = w := by
  have HP : Hid (∀ W, Calls Try.prog 26 #[.int .i64 40] W fun e' w' => e' = .returned (.int .i64 1099511627776) ∧ w' = W) := Lib.hid (pow_c 40 (by decide) (by decide))
  by_cases h0 : 0 ≤ e
  · skip
    by_cases h1 : e ≤ 1099511627776
    · skip
      by_cases hk2 : k = 2
      · have hk2' : (k == 2) = true := by simp [hk2]
        by_cases h3 : 0 ≤ sc
        · skip
          by_cases h4 : sc ≤ 2
          · skip
            by_cases h5 : 0 ≤ s
            · skip
              by_cases h6 : s ≤ 3
              · skip
                rw [show mayB e k sc s = true from mayB_iff.2 (by omega)]
                go_enter Try.func12, Try.ntmps12
                go_wp2_with (go_at_call 26; refine (HP.out _).mono ?_; rintro e' wz ⟨rfl, rfl⟩)
                go_ret
                exact ⟨by first | rfl | (simp; done) | (simp; omega), rfl⟩
              · skip
                rw [show mayB e k sc s = false from by rw [Bool.eq_false_iff, Ne, mayB_iff]; omega]
                go_enter Try.func12, Try.ntmps12
                go_wp2_with (go_at_call 26; refine (HP.out _).mono ?_; rintro e' wz ⟨rfl, rfl⟩)
                go_ret
                exact ⟨by first | rfl | (simp; done) | (simp; omega), rfl⟩
            · skip
              rw [show mayB e k sc s = false from by rw [Bool.eq_false_iff, Ne, mayB_iff]; omega]
              go_enter Try.func12, Try.ntmps12
              go_wp2_with (go_at_call 26; refine (HP.out _).mono ?_; rintro e' wz ⟨rfl, rfl⟩)
              go_ret
              exact ⟨by first | rfl | (simp; done) | (simp; omega), rfl⟩
          · skip
            rw [show mayB e k sc s = false from by rw [Bool.eq_false_iff, Ne, mayB_iff]; omega]
            go_enter Try.func12, Try.ntmps12
            go_wp2_with (go_at_call 26; refine (HP.out _).mono ?_; rintro e' wz ⟨rfl, rfl⟩)
            go_ret
            exact ⟨by first | rfl | (simp; done) | (simp; omega), rfl⟩
        · skip
          rw [show mayB e k sc s = false from by rw [Bool.eq_false_iff, Ne, mayB_iff]; omega]
          go_enter Try.func12, Try.ntmps12
          go_wp2_with (go_at_call 26; refine (HP.out _).mono ?_; rintro e' wz ⟨rfl, rfl⟩)
          go_ret
          exact ⟨by first | rfl | (simp; done) | (simp; omega), rfl⟩
      · have hk2' : (k == 2) = false := by simp [hk2]
        by_cases hk4 : k = 4
        · have hk4' : (k == 4) = true := by simp [hk4]
          by_cases h3 : 0 ≤ sc
          · skip
            by_cases h4 : sc ≤ 2
            · skip
              by_cases h5 : 0 ≤ s
              · skip
                by_cases h6 : s ≤ 3
                · skip
                  rw [show mayB e k sc s = true from mayB_iff.2 (by omega)]
                  go_enter Try.func12, Try.ntmps12
                  go_wp2_with (go_at_call 26; refine (HP.out _).mono ?_; rintro e' wz ⟨rfl, rfl⟩)
                  go_ret
                  exact ⟨by first | rfl | (simp; done) | (simp; omega), rfl⟩
                · skip
                  rw [show mayB e k sc s = false from by rw [Bool.eq_false_iff, Ne, mayB_iff]; omega]
                  go_enter Try.func12, Try.ntmps12
                  go_wp2_with (go_at_call 26; refine (HP.out _).mono ?_; rintro e' wz ⟨rfl, rfl⟩)
                  go_ret
                  exact ⟨by first | rfl | (simp; done) | (simp; omega), rfl⟩
              · skip
                rw [show mayB e k sc s = false from by rw [Bool.eq_false_iff, Ne, mayB_iff]; omega]
                go_enter Try.func12, Try.ntmps12
                go_wp2_with (go_at_call 26; refine (HP.out _).mono ?_; rintro e' wz ⟨rfl, rfl⟩)
                go_ret
                exact ⟨by first | rfl | (simp; done) | (simp; omega), rfl⟩
            · skip
              rw [show mayB e k sc s = false from by rw [Bool.eq_false_iff, Ne, mayB_iff]; omega]
              go_enter Try.func12, Try.ntmps12
              go_wp2_with (go_at_call 26; refine (HP.out _).mono ?_; rintro e' wz ⟨rfl, rfl⟩)
              go_ret
              exact ⟨by first | rfl | (simp; done) | (simp; omega), rfl⟩
          · skip
            rw [show mayB e k sc s = false from by rw [Bool.eq_false_iff, Ne, mayB_iff]; omega]
            go_enter Try.func12, Try.ntmps12
            go_wp2_with (go_at_call 26; refine (HP.out _).mono ?_; rintro e' wz ⟨rfl, rfl⟩)
            go_ret
            exact ⟨by first | rfl | (simp; done) | (simp; omega), rfl⟩
        · have hk4' : (k == 4) = false := by simp [hk4]
          rw [show mayB e k sc s = false from by rw [Bool.eq_false_iff, Ne, mayB_iff]; omega]
          go_enter Try.func12, Try.ntmps12
          go_wp2_with (go_at_call 26; refine (HP.out _).mono ?_; rintro e' wz ⟨rfl, rfl⟩)
          go_ret
          exact ⟨by first | rfl | (simp; done) | (simp; omega), rfl⟩
    · skip
      rw [show mayB e k sc s = false from by rw [Bool.eq_false_iff, Ne, mayB_iff]; omega]
      go_enter Try.func12, Try.ntmps12
      go_wp2_with (go_at_call 26; refine (HP.out _).mono ?_; rintro e' wz ⟨rfl, rfl⟩)
      go_ret
      exact ⟨by first | rfl | (simp; done) | (simp; omega), rfl⟩
  · skip
    rw [show mayB e k sc s = false from by rw [Bool.eq_false_iff, Ne, mayB_iff]; omega]
    go_enter Try.func12, Try.ntmps12
    go_wp2_with (go_at_call 26; refine (HP.out _).mono ?_; rintro e' wz ⟨rfl, rfl⟩)
    go_ret
    exact ⟨by first | rfl | (simp; done) | (simp; omega), rfl⟩


set_option maxHeartbeats 1000000 in
theorem top14_c (fo lo ke sc mo k : Int) (iv : Bool) (w : World) : Calls Try.prog 31 #[.agg #[.int .i64 fo, .int .i64 lo, .int .i64 ke, .int .i64 sc, .int .i64 mo, .bool iv], .int .i64 k] w fun e w' => e = .returned (.int .i64 (topB sc k)) ∧ Gr w w' := by
  by_cases h2 : sc = 2
  · subst h2
    rw [show topB 2 k = 0 by simp [topB]]
    go_enter Try.func31, Try.ntmps31
    go_wp2_with fail
    go_ret
    exact ⟨rfl, by repeat (first | exact Gr.refl _ | apply Gr.drew | apply Gr.alloc)⟩
  · have h2' : (sc == 2) = false := by simp [h2]
    by_cases h1 : sc = 1
    · subst h1
      by_cases hk : k = 2
      · subst hk
        rw [show topB 1 2 = 2 by simp [topB]]
        go_enter Try.func31, Try.ntmps31
        go_wp2_with fail
        go_ret
        exact ⟨rfl, by repeat (first | exact Gr.refl _ | apply Gr.drew | apply Gr.alloc)⟩
      · have hk' : (k == 2) = false := by simp [hk]
        rw [show topB 1 k = 3 by simp [topB, hk]]
        go_enter Try.func31, Try.ntmps31
        go_wp2_with fail
        go_ret
        exact ⟨rfl, by repeat (first | exact Gr.refl _ | apply Gr.drew | apply Gr.alloc)⟩
    · have h1' : (sc == 1) = false := by simp [h1]
      by_cases h0 : sc = 0
      · subst h0
        by_cases hk : k = 4
        · subst hk
          rw [show topB 0 4 = 2 by simp [topB]]
          go_enter Try.func31, Try.ntmps31
          go_wp2_with fail
          go_ret
          exact ⟨rfl, by repeat (first | exact Gr.refl _ | apply Gr.drew | apply Gr.alloc)⟩
        · have hk' : (k == 4) = false := by simp [hk]
          rw [show topB 0 k = 1 by simp [topB, hk]]
          go_enter Try.func31, Try.ntmps31
          go_wp2_with fail
          go_ret
          exact ⟨rfl, by repeat (first | exact Gr.refl _ | apply Gr.drew | apply Gr.alloc)⟩
      · have h0' : (sc == 0) = false := by simp [h0]
        rw [show topB sc k = 1 by simp [topB, h0, h1, h2]]
        go_enter Try.func31, Try.ntmps31
        go_wp2_with fail
        go_ret
        exact ⟨rfl, by repeat (first | exact Gr.refl _ | apply Gr.drew | apply Gr.alloc)⟩


end Go.Proofs.Ytmjghakodgihiaa
