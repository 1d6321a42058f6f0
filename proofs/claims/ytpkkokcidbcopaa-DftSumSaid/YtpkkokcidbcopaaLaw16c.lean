/- DftTurns and DftSum, over package dft's contracts in numbers. -/
import Derived.Test.YtpkkokcidbcopaaLaw16b
namespace Go.Proofs.Ytpkkokcidbcopaa
open Go.ChangeShapes Go.WideShapes Go.ChangeAt Go.RowKit
set_option linter.unusedVariables false
set_option linter.unusedSimpArgs false
set_option maxRecDepth 100000

def sumX (xs : List Gi) (j : Nat) : Gi := ⟨isum (fun i => (xs.getD i ⟨0, 0⟩).re) j, isum (fun i => (xs.getD i ⟨0, 0⟩).im) j⟩
theorem sumX_bd (xs : List Gi) (hx : allIn 2147483648 xs = true) (j : Nat) (hj : j ≤ 64) : (-137438953472 ≤ (sumX xs j).re ∧ (sumX xs j).re ≤ 137438953472) ∧ (-137438953472 ≤ (sumX xs j).im ∧ (sumX xs j).im ≤ 137438953472) := by
  have h1 := isum_bd (fun i => (xs.getD i ⟨0, 0⟩).re) 2147483648 j (fun i _ => (part_in hx (by decide) i).1)
  have h2 := isum_bd (fun i => (xs.getD i ⟨0, 0⟩).im) 2147483648 j (fun i _ => (part_in hx (by decide) i).2)
  have c := Int.mul_le_mul_of_nonneg_right (show (j : Int) ≤ 64 by omega) (show (0 : Int) ≤ 2147483648 by decide)
  unfold sumX
  simp only
  omega
theorem back_mod (n : Nat) (hn : IsLen (n : Int)) (r : Int) : ((r % (n : Int)).toNat + ((-r) % (n : Int)).toNat) % n = 0 := by
  unfold IsLen at hn
  have hc : n = 4 ∨ n = 8 ∨ n = 16 ∨ n = 32 ∨ n = 64 := by omega
  rcases hc with rfl | rfl | rfl | rfl | rfl <;> omega
theorem binG_bd (n : Nat) (hn : IsLen n) (xs : List Gi) (iv : Bool) (hx : allIn 2147483648 xs = true) (k : Nat) : (-70368744177664 ≤ (binG n xs iv k).re ∧ (binG n xs iv k).re ≤ 70368744177664) ∧ (-70368744177664 ≤ (binG n xs iv k).im ∧ (binG n xs iv k).im ≤ 70368744177664) := by
  have h := sum_bd n hn xs iv hx k n (Nat.le_refl _)
  unfold binG
  simp only
  omega

theorem dftTurns_all (p : Option Addr) (l1 cap1 m1 : Nat) (xs : List Gi) (hm1 : m1 ≤ cap1) (hmin1 : (if (70 : Int) < (l1 : Int) then 70 else (l1 : Int)) = (m1 : Int)) (a1 : Int) (hxn : xs.length = m1) (w : World) (hx : CxsAt w (.slice p m1 cap1) xs) :
    Calls Try.prog 3 #[.slice p l1 cap1, .int .i64 a1] w fun e w' => e = .returned (.bool true) ∧ Gr w w' := by
  have r1 := Int.lt_tmod_of_pos a1 (show (0 : Int) < 1099511627776 by decide)
  have r2 := Int.tmod_lt_of_pos a1 (show (0 : Int) < 1099511627776 by decide)
  obtain ⟨r, hr⟩ : ∃ r, a1.tmod 1099511627776 = r := ⟨_, rfl⟩
  rw [hr] at r1 r2
  by_cases h : ∃ L, IsLog (m1 : Int) L
  · obtain ⟨L, h⟩ := h
    have hl := h.len
    have hn : 4 ≤ m1 ∧ m1 ≤ 64 := by unfold IsLen at hl; omega
    by_cases hb : allIn 2147483648 xs = true
    · have hxj : ∀ (j : Nat) (x : Gi), xs[j]? = some x → xs.getD j ⟨0, 0⟩ = x := fun j x h => by rw [List.getD_eq_getElem?_getD, h]; rfl
      refine dftTurns_yes p l1 cap1 m1 xs hm1 hmin1 hxn (by omega) hn.2 a1 r (r + m1) (-r) (binG m1 xs false (r % (m1 : Int)).toNat) (binG m1 xs false 0) (fun j => sumX xs j) hr (IntWalk.wrap64_in _ ⟨by omega, by omega⟩) (IntWalk.wrap64_in _ ⟨by omega, by omega⟩)
        (Lib.hid fun W hW => dBin_yes m1 L h r false p cap1 xs hxn hb W hW) (Lib.hid fun W hW => ?_) (Lib.hid fun W hW => ?_) (Lib.hid fun W hW => ?_) rfl (Lib.hid fun j x hjx => ?_) (Lib.hid ?_) (Lib.hid alive16_c) w hx
      · have := dBin_yes m1 L h (r + m1) false p cap1 xs hxn hb W hW
        rw [Int.add_emod_right] at this
        exact this
      · have := dBin_yes m1 L h (-r) true p cap1 xs hxn hb W hW
        rw [binG_back m1 hl xs _ _ (back_mod m1 hl r)] at this
        exact this
      · have := dBin_yes m1 L h 0 false p cap1 xs hxn hb W hW
        rw [Int.zero_emod] at this
        exact this
      · have hjn : j < m1 := by rw [← hxn]; exact (List.getElem?_eq_some_iff.1 hjx).1
        have b0 := sumX_bd xs hb j (by omega)
        have b1 := part_in hb (by decide) j
        rw [hxj j x hjx] at b1
        have e : sumX xs (j + 1) = ⟨(sumX xs j).re + x.re, (sumX xs j).im + x.im⟩ := by
          have hj1 := hxj j x hjx
          unfold sumX
          simp only [isum, hj1]
        rw [e]
        exact ⟨IntWalk.wrap64_in _ ⟨by omega, by omega⟩, IntWalk.wrap64_in _ ⟨by omega, by omega⟩⟩
      · have b0 := sumX_bd xs hb m1 hn.2
        rw [binG_zero m1 hl, Int.mul_comm 256, Int.mul_comm 256]
        unfold sumX at b0 ⊢
        simp only at b0 ⊢
        exact ⟨IntWalk.wrap64_in _ ⟨by omega, by omega⟩, IntWalk.wrap64_in _ ⟨by omega, by omega⟩⟩
    · have hb' : allIn 2147483648 xs = false := by simpa using hb
      exact dftTurns_no p l1 cap1 m1 xs hm1 hmin1 a1 r 2 hr (by decide) (by decide) (Lib.hid fun W hW => dBin_no m1 r false p cap1 xs hxn 2 (.inr ⟨⟨L, h⟩, hb', rfl⟩) W hW) (Lib.hid alive16_c) w hx
  · exact dftTurns_no p l1 cap1 m1 xs hm1 hmin1 a1 r 3 hr (by decide) (by decide) (Lib.hid fun W hW => dBin_no m1 r false p cap1 xs hxn 3 (.inl ⟨h, rfl⟩) W hW) (Lib.hid alive16_c) w hx

def sumB (n : Nat) (xs : List Gi) (iv : Bool) (x0 : Gi) (k : Nat) : Gi := ⟨-x0.re * n * 256 + isum (fun i => (binG n xs iv i).re) k, -x0.im * n * 256 + isum (fun i => (binG n xs iv i).im) k⟩
theorem sumB_bd (n : Nat) (hn : IsLen n) (xs : List Gi) (iv : Bool) (hx : allIn 2147483648 xs = true) (x0 : Gi) (h0 : (-2147483648 ≤ x0.re ∧ x0.re ≤ 2147483648) ∧ (-2147483648 ≤ x0.im ∧ x0.im ≤ 2147483648)) (k : Nat) (hk : k ≤ n) :
    ((-137438953472 ≤ -x0.re * (n : Int) ∧ -x0.re * (n : Int) ≤ 137438953472) ∧ (-137438953472 ≤ -x0.im * (n : Int) ∧ -x0.im * (n : Int) ≤ 137438953472)) ∧
    (-4538783999459328 ≤ (sumB n xs iv x0 k).re ∧ (sumB n xs iv x0 k).re ≤ 4538783999459328) ∧ (-4538783999459328 ≤ (sumB n xs iv x0 k).im ∧ (sumB n xs iv x0 k).im ≤ 4538783999459328) := by
  have h64 : (n : Int) ≤ 64 := by unfold IsLen at hn; omega
  have h1 := isum_bd (fun i => (binG n xs iv i).re) 70368744177664 k (fun i _ => (binG_bd n hn xs iv hx i).1)
  have h2 := isum_bd (fun i => (binG n xs iv i).im) 70368744177664 k (fun i _ => (binG_bd n hn xs iv hx i).2)
  have c := Int.mul_le_mul_of_nonneg_right (show (k : Int) ≤ 64 by omega) (show (0 : Int) ≤ 70368744177664 by decide)
  have m1 := mulG_bd (-x0.re) n 2147483648 64 (by decide) (by omega) (by omega)
  have m2 := mulG_bd (-x0.im) n 2147483648 64 (by decide) (by omega) (by omega)
  unfold sumB
  simp only
  omega

theorem dftSum_all (p : Option Addr) (l1 cap1 m1 : Nat) (xs : List Gi) (hm1 : m1 ≤ cap1) (hmin1 : (if (70 : Int) < (l1 : Int) then 70 else (l1 : Int)) = (m1 : Int)) (iv : Bool) (hxn : xs.length = m1) (w : World) (hx : CxsAt w (.slice p m1 cap1) xs) :
    Calls Try.prog 4 #[.slice p l1 cap1, .bool iv] w fun e w' => e = .returned (.bool true) ∧ Gr w w' := by
  by_cases h : ∃ L, IsLog (m1 : Int) L
  · obtain ⟨L, h⟩ := h
    have hl := h.len
    have hn : 4 ≤ m1 ∧ m1 ≤ 64 := by unfold IsLen at hl; omega
    by_cases hb : allIn 2147483648 xs = true
    · obtain ⟨x0, hx0⟩ := get_of_lt (xs := xs) (show 0 < xs.length by omega)
      have hx0g : xs.getD 0 ⟨0, 0⟩ = x0 := by rw [List.getD_eq_getElem?_getD, hx0]; rfl
      have p0 := part_in hb (by decide) 0
      rw [hx0g] at p0
      have bd := fun k hk => sumB_bd m1 hl xs iv hb x0 p0 k hk
      have hS := slackG_bd m1 hn.2 xs hb
      have hall := bins_all m1 hl xs iv
      rw [hx0g] at hall
      obtain ⟨N, hN, hNc⟩ := max4_cases (sumB m1 xs iv x0 m1).re (-(sumB m1 xs iv x0 m1).re) (sumB m1 xs iv x0 m1).im (-(sumB m1 xs iv x0 m1).im)
      have s2 := Int.mul_le_mul_of_nonneg_right hS.2.2.1 (show (0 : Int) ≤ (m1 : Int) by omega)
      have s3 := Int.mul_le_mul_of_nonneg_right hS.2.2.2 (show (0 : Int) ≤ (m1 : Int) by omega)
      have nr : -x0.re * (m1 : Int) * 256 = -(m1 * 256 * x0.re) := by grind
      have ni : -x0.im * (m1 : Int) * 256 = -(m1 * 256 * x0.im) := by grind
      have bget : ∀ (j : Nat) (x : Gi), (binsG m1 xs iv)[j]? = some x → j < m1 ∧ x = binG m1 xs iv j := fun j x hj => by
        unfold binsG at hj
        rw [List.getElem?_map] at hj
        obtain ⟨j', hj', rfl⟩ := Option.map_eq_some_iff.1 hj
        obtain ⟨hjl, rfl⟩ := List.getElem?_eq_some_iff.1 hj'
        simp only [List.length_range] at hjl
        exact ⟨hjl, by simp⟩
      refine dftSum_yes p l1 cap1 m1 xs hm1 hmin1 hxn (by omega) hn.2 iv (slackG m1 xs) (slackG m1 xs * m1) N (binsG m1 xs iv) (binsG_len m1 xs iv) x0 hx0 (fun k => sumB m1 xs iv x0 k) (-x0.re) (-x0.im) (-x0.re * m1) (-x0.im * m1)
        (Lib.hid fun W hW => dAll_yes m1 L h iv p cap1 xs hxn hb W hW) (Lib.hid fun W hW => dSlack_yes m1 L h p cap1 xs hxn hb W hW) (Lib.hid fun j x hj W hW => ?_) (Lib.hid ?_) (Lib.hid fun j x hj => ?_) (Lib.hid ?_) hN ?_ (Lib.hid alive16_c) w hx
      · obtain ⟨hjn, rfl⟩ := bget j x hj
        have := dBin_yes m1 L h (j : Int) iv p cap1 xs hxn hb W hW
        rw [show ((j : Int) % (m1 : Int)).toNat = j by rw [Int.emod_eq_of_lt (by omega) (by omega)]; exact Int.toNat_natCast j] at this
        exact this
      · have b0 := bd 0 (by omega)
        have e0 : sumB m1 xs iv x0 0 = ⟨-x0.re * m1 * 256, -x0.im * m1 * 256⟩ := by unfold sumB isum; simp
        rw [e0] at b0 ⊢
        exact ⟨IntWalk.i64_in _ ⟨by omega, by omega⟩, IntWalk.i64_in _ ⟨by omega, by omega⟩, IntWalk.i64_in _ ⟨by omega, by omega⟩, IntWalk.i64_in _ ⟨by omega, by omega⟩, IntWalk.i64_in _ ⟨by omega, by omega⟩, IntWalk.i64_in _ ⟨by omega, by omega⟩⟩
      · obtain ⟨hjn, rfl⟩ := bget j x hj
        have b0 := bd j (by omega)
        have b1 := binG_bd m1 hl xs iv hb j
        have e : sumB m1 xs iv x0 (j + 1) = ⟨(sumB m1 xs iv x0 j).re + (binG m1 xs iv j).re, (sumB m1 xs iv x0 j).im + (binG m1 xs iv j).im⟩ := by
          unfold sumB
          simp only [isum, Gi.mk.injEq]
          omega
        rw [e]
        exact ⟨IntWalk.i64_in _ ⟨by omega, by omega⟩, IntWalk.i64_in _ ⟨by omega, by omega⟩⟩
      · have b0 := bd m1 (Nat.le_refl _)
        exact ⟨IntWalk.wrap64_in _ ⟨by omega, by omega⟩, IntWalk.wrap64_in _ ⟨by omega, by omega⟩, IntWalk.wrap64_in _ ⟨by omega, by omega⟩⟩
      · clear hN bget bd hx hx0 hx0g
        unfold sumB at hNc
        simp only at hNc
        rw [nr, ni] at hNc
        generalize (m1 : Int) * 256 * x0.re = u at *
        generalize (m1 : Int) * 256 * x0.im = v at *
        generalize isum (fun k => (binG m1 xs iv k).re) m1 = a at *
        generalize isum (fun k => (binG m1 xs iv k).im) m1 = b at *
        generalize slackG m1 xs * (m1 : Int) = q at *
        omega
    · have hb' : allIn 2147483648 xs = false := by simpa using hb
      exact dftSum_no p l1 cap1 m1 xs hm1 hmin1 2 iv (by decide) (by decide) (Lib.hid fun W hW => dAll_no m1 iv p cap1 xs hxn 2 (.inr ⟨⟨L, h⟩, hb', rfl⟩) W hW) (Lib.hid fun W hW => dSlack_no m1 p cap1 xs hxn 2 (.inr ⟨⟨L, h⟩, hb', rfl⟩) W hW) (Lib.hid alive16_c) w hx
  · exact dftSum_no p l1 cap1 m1 xs hm1 hmin1 3 iv (by decide) (by decide) (Lib.hid fun W hW => dAll_no m1 iv p cap1 xs hxn 3 (.inl ⟨h, rfl⟩) W hW) (Lib.hid fun W hW => dSlack_no m1 p cap1 xs hxn 3 (.inl ⟨h, rfl⟩) W hW) (Lib.hid alive16_c) w hx

end Go.Proofs.Ytpkkokcidbcopaa
