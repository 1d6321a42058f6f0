import Derived.Test.YtablflakcaimmaaGreatUS41
namespace Go.Proofs.YtablflakcaimmaaGreat
section
open Go.ChangeShapes Go.WideShapes Go.ChangeAt Go.RowKit
set_option linter.unusedVariables false
set_option maxRecDepth 100000
theorem reduced (s : Int) (r : Nat) (hr : r ≤ 31) : ∃ (t : Int) (n : Nat), n ≤ r ∧ (wrap64 ((r : Int) + 1) = r + 1 ∧ s.tmod (r + 1) = t ∧ wrap64 (t + r) = t + r ∧ wrap64 (t + r + 1) = t + r + 1 ∧ (t + r + 1).tmod (r + 1) = n ∧ wrap64 (-(n : Int)) = -n ∧ ¬ (r : Int) + 1 = 0) := by
 have h1 := Int.lt_tmod_of_pos s (show (0 : Int) < (r : Int) + 1 by omega)
 have h2 := Int.tmod_lt_of_pos s (show (0 : Int) < (r : Int) + 1 by omega)
 have h3 := Int.tmod_nonneg (a := s.tmod (r + 1) + r + 1) ((r : Int) + 1) (by omega)
 have h4 := Int.tmod_lt_of_pos (s.tmod (r + 1) + r + 1) (show (0 : Int) < (r : Int) + 1 by omega)
 refine ⟨s.tmod (r + 1), ((s.tmod (r + 1) + r + 1).tmod (r + 1)).toNat, by omega, IntWalk.wrap64_in _ (by omega), rfl, IntWalk.wrap64_in _ (by omega), IntWalk.wrap64_in _ (by omega), (Int.toNat_of_nonneg h3).symm, IntWalk.wrap64_in _ (by omega), by omega⟩
theorem scales15_all (HF : FftSaid 9 runF) (HA : ∀ W, Calls Tryz.prog 11 #[] W fun e w' => e = .returned (.bool true) ∧ Gr W w')
 (p : Option Addr) (l1 cap1 m1 : Nat) (fo lo ke sc mo s : Int) (iv : Bool) (xs : List Gi) (hl : xs.length = m1) (hm1 : m1 ≤ cap1) (hmin1 : (if (70 : Int) < (l1 : Int) then 70 else (l1 : Int)) = (m1 : Int)) (w : World) (hx : CxsAt w (.slice p m1 cap1) xs) :
 Calls Tryz.prog 7 #[.slice p l1 cap1, .agg #[.int .i64 fo, .int .i64 lo, .int .i64 ke, .int .i64 sc, .int .i64 mo, .bool iv], .int .i64 s] w fun e w' => e = .returned (.bool true) ∧ Gr w w' := by
 obtain ⟨y, hy⟩ : ∃ y, whyB fo lo ke 1 mo false xs = y := ⟨_, rfl⟩
 by_cases h0 : y = 0
 ·subst h0
  obtain ⟨h1, h2, h3⟩ := why_yes hy
  have H := plF_of h1
  have hm : ManB (oneB fo) xs := manB_iff.1 h3
  have ho := okF_iff.1 h1
  have hk2 : ke ≠ 2 := fun e => by have := ho.2 e; omega
  have hp : oneB fo = 32768 ∨ oneB fo = 2147483648 := by unfold oneB; split <;> simp
  have hlen : xs.length ≤ 64 := by have := H.lens.2.1.2; omega
  have hA : allIn 2147483648 xs = true := allIn_parts.2 fun a ha => by have := hm a ha; omega
  have hmp : maxG xs ≤ oneB fo := maxG_le xs _ (by omega) fun a ha => by
   have := hm a ha
   exact ⟨absI_le.2 (by omega), absI_le.2 (by omega)⟩
  have hm0 := maxG_nonneg xs
  have hr31 := room_le (oneB fo) (maxG xs)
  have HX := Lib.hid fun W (h : CxsAt W (.slice p m1 cap1) xs) => scanMax_yes _ xs hA (by omega) W h
  obtain ⟨b, hb, _⟩ := fb_of h1
  have HR := Lib.hid fun W => scanRoom_ok (maxG xs) fo b (oneB fo) hb hm0 hmp W
  have HP := Lib.hid fun W (h : CxsAt W (.slice p m1 cap1) xs) => HF.1 fo lo ke 1 mo iv _ xs hy W h
  by_cases hz : maxG xs = 0
  ·rw [hz] at HX HR
   exact scales15_zero p l1 cap1 m1 fo lo ke sc mo s iv xs hm1 hmin1 _ (runF fo lo ke 1 mo iv xs) HP HX HR (Lib.hid HA) w hx
  ·obtain ⟨t, n, hn, hW0⟩ := reduced s (room (oneB fo) (maxG xs)) hr31
   have hW := Lib.hid hW0
   clear hW0
   have hpos : 0 < maxG xs := by omega
   have hin := up_in (oneB fo) n 0 xs hp hm hpos hn
   have hy' : whyB fo lo ke 1 mo false (xs.map (shG (-(n : Int)) 0)) = 0 := by
    unfold whyB
    have hpb : partsB (-(oneB fo)) (oneB fo - 1) (xs.map (shG (-(n : Int)) 0)) = true := manB_iff.2 hin
    rw [if_pos h1, List.length_map, if_pos (by rw [h2]; simp)]
    simp only [Bool.false_eq_true, if_false]
    rw [if_pos hpb]
   have hrun : runF fo lo ke 1 mo iv (xs.map (shG (-(n : Int)) 0)) = { runF fo lo ke 1 mo iv xs with ex := (runF fo lo ke 1 mo iv xs).ex + n } := by
    unfold runF
    exact run_up ke lo mo 0 (oneB fo) iv _ _ n _ xs hk2 (by omega) hpos hn
   have hex : -31 ≤ (runF fo lo ke 1 mo iv xs).ex ∧ (runF fo lo ke 1 mo iv xs).ex ≤ 19 := by
    unfold runF runB15
    rw [if_neg hk2]
    exact (behind_may H iv h2 hm _ (Nat.le_refl _)).2
   have HQ := Lib.hid fun (v : Value) W (h : CxsAt W v (xs.map (shG (-(n : Int)) 0))) => HF.1 fo lo ke 1 mo iv v _ hy' W h
   rw [hrun] at HQ
   have HS := Lib.hid fun W (h : CxsAt W (.slice p m1 cap1) xs) => scanShifted_ok _ xs (-(n : Int)) 0 (by omega) (by omega) (by decide) (by decide) (man_wf H hm) (fun _ => by
    refine allIn_more hA ?_
    have : (2 : Nat) ^ 31 ≤ 2 ^ (62 + -(n : Int)).toNat := Nat.pow_le_pow_right (by decide) (by omega)
    have e : (2147483648 : Int) = ((2 ^ 31 : Nat) : Int) := by decide
    rw [e]
    exact_mod_cast this) (by omega) W h
   exact scales15_yes p l1 cap1 m1 fo lo ke sc mo s iv xs hm1 hmin1 (maxG xs) _ t n (by simp [hz]) (runF fo lo ke 1 mo iv xs) _ HP HX HR hW (Lib.hid (IntWalk.wrap64_in _ (by omega))) HS HQ (Lib.hid HA) w hx
 ·exact scales15_no p l1 cap1 m1 fo lo ke sc mo s iv xs hm1 hmin1 y (by simp [h0]) (Lib.hid fun W h => HF.2 fo lo ke 1 mo iv _ xs y hy h0 W h) (Lib.hid HA) w hx
end
end Go.Proofs.YtablflakcaimmaaGreat
