/- Proved: for every input, the law BudgetLeast answers true at this commit, and its arguments read afterwards as before. No condition. -/
import Derived.Test.YtmjghakodgihiaaRows
import Derived.WalkKit
import Derived.ProofKit
import Derived.OpenShut
import Derived.Lib.SmallJoins
import Derived.ChangeOld
import Derived.Below
import Derived.Test.YtmjghakodgihiaaBudgetLeastCore
import Derived.Test.YtmjghakodgihiaaBudgetCode
import Derived.Test.YtmjghakodgihiaaPlanArg
namespace Go.Proofs.Ytmjghakodgihiaa.budgetLeast
open Go.ChangeShapes Go.WideShapes Go.ChangeAt Go.RowKit Go.Joins
set_option linter.unusedVariables false

theorem own : ownKnob Try.prog.godebug = none := by kernel_rfl
theorem laidOut : laidOutB Try.prog = true := by kernel_rfl


theorem cut10 (n : Nat) : ∃ m : Nat, m ≤ n ∧ m ≤ 10 ∧ (if (10 : Int) < (n : Int) then 10 else (n : Int)) = (m : Int) := by
  by_cases h : (10 : Int) < (n : Int)
  · exact ⟨10, by omega, by omega, by rw [if_pos h]; rfl⟩
  · exact ⟨n, Nat.le_refl _, by omega, by rw [if_neg h]⟩
theorem mod3 (a : Int) : ∃ r m : Int, (a.tmod 3 = r ∧ IntKind.i64.wrap (r + 3) = r + 3 ∧ (r + 3).tmod 3 = m) ∧ 0 ≤ m ∧ m < 3 := by
  have h1 := Int.lt_tmod_of_pos a (show (0 : Int) < 3 by decide)
  have h2 := Int.tmod_lt_of_pos a (show (0 : Int) < 3 by decide)
  refine ⟨a.tmod 3, (a.tmod 3 + 3).tmod 3, ⟨rfl, IntWalk.i64_in _ ⟨by omega, by omega⟩, rfl⟩, ?_⟩
  generalize a.tmod 3 = r at *
  exact ⟨Int.tmod_nonneg _ (by omega), Int.tmod_lt_of_pos _ (by decide)⟩
theorem idx14 (i : Int) (n : Nat) (h0 : 0 < n) (h1 : n ≤ 10) : ∃ (j : Int) (K : Nat), i.tmod (n : Int) = j ∧ (-10 ≤ j ∧ j ≤ 10) ∧ (j + (n : Int)).tmod (n : Int) = (K : Int) ∧ K < n := by
  have a1 := Int.lt_tmod_of_pos i (show (0 : Int) < (n : Int) by omega)
  have a2 := Int.tmod_lt_of_pos i (show (0 : Int) < (n : Int) by omega)
  generalize hj : i.tmod (n : Int) = j at *
  have b1 : 0 ≤ (j + (n : Int)).tmod (n : Int) := Int.tmod_nonneg _ (by omega)
  have b2 := Int.tmod_lt_of_pos (j + (n : Int)) (show (0 : Int) < (n : Int) by omega)
  clear hj
  refine ⟨j, ((j + (n : Int)).tmod (n : Int)).toNat, rfl, ⟨by omega, by omega⟩, by rw [Int.toNat_of_nonneg b1], ?_⟩
  generalize (j + (n : Int)).tmod (n : Int) = t at *
  omega

set_option maxHeartbeats 4000000 in
set_option maxRecDepth 100000 in
theorem walk (w : World) (fo0 lo0 ke0 sc0 mo0 : Int) (iv0 : Bool) (sp1 : Option Addr) (sc1 : Nat) (ls1 : List Int) (a2 : Int) (a3 : Int) (v0 : (Lit.int .i64 fo0).wf = true ∧ (Lit.int .i64 lo0).wf = true ∧ (Lit.int .i64 ke0).wf = true ∧ (Lit.int .i64 sc0).wf = true ∧ (Lit.int .i64 mo0).wf = true) (wl1 : ∀ g ∈ ls1, (Lit.int .i64 g).wf = true) (hl1 : NumsAt w (.slice sp1 ls1.length sc1) ls1) (w2 : (Lit.int .i64 a2).wf = true) (w3 : (Lit.int .i64 a3).wf = true) :
    Calls Try.prog 5 #[.agg #[.int .i64 fo0, .int .i64 lo0, .int .i64 ke0, .int .i64 sc0, .int .i64 mo0, .bool iv0], .slice sp1 ls1.length sc1, .int .i64 a2, .int .i64 a3] w fun e w' => e = .returned (.bool true) ∧ Gr w w' := by
  obtain ⟨m, hm, h10, hmin⟩ := cut10 ls1.length
  obtain ⟨hc, hl, hcap, _⟩ := hl1.cut m hm
  obtain ⟨ls, hls⟩ : ∃ ls, ls = ls1.take m := ⟨_, rfl⟩
  rw [← hls] at hc hl
  subst hl
  cases hok : okF fo0 lo0 ke0 sc0 mo0
  · exact budgetLeast_bad sp1 ls1.length sc1 ls fo0 lo0 ke0 sc0 mo0 a2 a3 4 iv0 hmin hcap rfl (Lib.hid fun sp cl W hN => budgetOf_bad fo0 lo0 ke0 sc0 mo0 iv0 hok sp cl ls W hN) (Lib.hid alive14_c) w hc
  · have ho := okF_iff.1 hok
    cases hf : fitsB sc0 (passL ke0 lo0) ls
    · exact budgetLeast_bad sp1 ls1.length sc1 ls fo0 lo0 ke0 sc0 mo0 a2 a3 1 iv0 hmin hcap rfl (Lib.hid fun sp cl W hN => budgetOf_arg fo0 lo0 ke0 sc0 mo0 iv0 hok sp cl ls h10 hf W hN) (Lib.hid alive14_c) w hc
    · obtain ⟨r, m2, HMM0, hm2b⟩ := mod3 a3
      have HMM := Lib.hid HMM0
      clear HMM0
      have hokq : okF fo0 lo0 ke0 sc0 m2 = true := okF_iff.2 ⟨⟨ho.1.1, ho.1.2.1, ho.1.2.2.1, ho.1.2.2.2.1, hm2b⟩, ho.2⟩
      have HO := Lib.hid fun sp cl W hN => budgetOf_ok fo0 lo0 ke0 sc0 mo0 iv0 hok sp cl ls hf W hN
      have HOQ := Lib.hid fun sp cl W hN => budgetOf_ok fo0 lo0 ke0 sc0 m2 (!iv0) hokq sp cl ls hf W hN
      have hst : 0 ≤ startB sc0 := by unfold startB; split <;> omega
      have n0 : 0 ≤ ofB sc0 ke0 lo0 ls := by
        have := runB_pos sc0 (passL ke0 lo0) ls (startB sc0) hst hf
        unfold ofB
        split <;> omega
      have hhalf : sc0 = 0 → ofB sc0 ke0 lo0 ls ≤ 64 * (6 * lo0 + 4) := by
        intro e
        subst e
        exact half_least ke0 lo0 ls (by omega) (by omega) (by omega) (by omega) hf
      clear hls
      by_cases hnil : ls = []
      · have hlen : ls.length = 0 := by rw [hnil]; rfl
        cases hsc : (sc0 == 0)
        · exact budgetLeast_nil sp1 ls1.length sc1 ls fo0 lo0 ke0 sc0 mo0 a2 a3 r (r + 3) m2 _ iv0 hmin hcap (Lib.hid hlen) hsc HMM n0 (by omega) (by omega) hhalf HO HOQ (Lib.hid alive14_c) w hc
        · exact budgetLeast_nil0 sp1 ls1.length sc1 ls fo0 lo0 ke0 sc0 mo0 a2 a3 r (r + 3) m2 _ iv0 hmin hcap (Lib.hid hlen) hsc HMM n0 (by omega) (by omega) hhalf HO HOQ (Lib.hid alive14_c) w hc
      · have hpos : 0 < ls.length := by cases ls with | nil => exact absurd rfl hnil | cons _ _ => simp
        obtain ⟨j0, K, HI0⟩ := idx14 a2 ls.length hpos h10
        have hKl := HI0.2.2.2
        have HIX := Lib.hid HI0
        clear HI0
        obtain ⟨x, hx⟩ := get_of_lt hKl
        have hflen := fitsB_len sc0 _ ls hf
        obtain ⟨q, hq⟩ := get_of_lt (show K < (passL ke0 lo0).length by omega)
        have hxb := fitB_iff.1 (fitsB_at sc0 _ ls K q x hf hq hx)
        have htb := topB_le sc0 q.re
        have HX : Hid (ls[K]? = some x ∧ 0 ≤ x ∧ x ≤ 1000) := Lib.hid ⟨hx, by omega, by omega⟩
        cases hf2 : fitsB sc0 (passL ke0 lo0) (ls.set K (x + 1))
        · have HOM : Hid (∀ sp cl W, NumsAt W (.slice sp ls.length cl) (ls.set K (x + 1)) → Calls Try.prog 14 #[.agg #[.int .i64 fo0, .int .i64 lo0, .int .i64 ke0, .int .i64 sc0, .int .i64 mo0, .bool iv0], .slice sp ls.length cl] W fun e w' => e = .returned (.tuple #[.int .i64 0, .int .i64 1]) ∧ Gr W w') := Lib.hid fun sp cl W hN => by
            have h := budgetOf_arg fo0 lo0 ke0 sc0 mo0 iv0 hok sp cl (ls.set K (x + 1)) (by rw [List.length_set]; exact h10) hf2 W (by rw [List.length_set]; exact hN)
            rw [List.length_set] at h
            exact h
          clear hx hq hxb htb
          cases hsc : (sc0 == 0)
          · exact budgetLeast_no sp1 ls1.length sc1 K ls fo0 lo0 ke0 sc0 mo0 a2 a3 r (r + 3) m2 _ x 0 1 j0 iv0 hmin hcap (Lib.hid hnil) h10 hsc HIX HX HMM n0 (by omega) (by omega) hhalf HO HOQ HOM rfl (Lib.hid alive14_c) w hc
          · exact budgetLeast_no0 sp1 ls1.length sc1 K ls fo0 lo0 ke0 sc0 mo0 a2 a3 r (r + 3) m2 _ x 0 1 j0 iv0 hmin hcap (Lib.hid hnil) h10 hsc HIX HX HMM n0 (by omega) (by omega) hhalf HO HOQ HOM rfl (Lib.hid alive14_c) w hc
        · have HOM : Hid (∀ sp cl W, NumsAt W (.slice sp ls.length cl) (ls.set K (x + 1)) → Calls Try.prog 14 #[.agg #[.int .i64 fo0, .int .i64 lo0, .int .i64 ke0, .int .i64 sc0, .int .i64 mo0, .bool iv0], .slice sp ls.length cl] W fun e w' => e = .returned (.tuple #[.int .i64 (ofB sc0 ke0 lo0 (ls.set K (x + 1))), .int .i64 0]) ∧ Gr W w') := Lib.hid fun sp cl W hN => by
            have h := budgetOf_ok fo0 lo0 ke0 sc0 mo0 iv0 hok sp cl (ls.set K (x + 1)) hf2 W (by rw [List.length_set]; exact hN)
            rw [List.length_set] at h
            exact h
          have hz : ofB sc0 ke0 lo0 (ls.set K (x + 1)) ≤ ofB sc0 ke0 lo0 ls := by
            have := runB_more sc0 (passL ke0 lo0) ls (startB sc0) K x hst hf hf2 hx
            unfold ofB
            omega
          clear hx hq hxb htb
          cases hsc : (sc0 == 0)
          · exact budgetLeast_ok sp1 ls1.length sc1 K ls fo0 lo0 ke0 sc0 mo0 a2 a3 r (r + 3) m2 _ x _ 0 j0 iv0 hmin hcap (Lib.hid hnil) h10 hsc HIX HX HMM n0 (by omega) (by omega) hhalf HO HOQ HOM hz (Lib.hid alive14_c) w hc
          · exact budgetLeast_ok0 sp1 ls1.length sc1 K ls fo0 lo0 ke0 sc0 mo0 a2 a3 r (r + 3) m2 _ x _ 0 j0 iv0 hmin hcap (Lib.hid hnil) h10 hsc HIX HX HMM n0 (by omega) (by omega) hhalf HO HOQ HOM hz (Lib.hid alive14_c) w hc

set_option maxHeartbeats 4000000 in
set_option maxRecDepth 100000 in
theorem lifted (os : Os) (started : os.Started) (H : Type) (enc : TypeId × Value → H) :
    ReturnsInHanded {} Try.checked os 5 .any (Rows.budgetLeastSpec.pre6 enc Try.prog Try.f5 Rows.budgetLeastRow.domain false) (Rows.budgetLeastSpec.post enc Try.prog Try.f5 false true false false) := by
  refine returnsInHanded_of_change (C := Try.checked) own started (by kernel_rfl) Try.func5
    (ChangeSpec.witness6 (enc := enc) (C := Try.checked) false ⟨#[], #[.agg #[.int .i64 0, .int .i64 0, .int .i64 0, .int .i64 0, .int .i64 0, .bool false], .slice none 0 0, .int .i64 0, .int .i64 0], []⟩ 8 (by kernel_rfl) (by kernel_rfl) (by kernel_rfl) (by kernel_rfl)) ?_
  intro W base args ds gs before hval0 hW hcnd _
  have hval : ∀ (j : Nat) t v, Try.f5.params[j]? = some t → args[j]? = some v → Value.okWide Try.prog W .any base t v := hval0
  have hW' := hW
  obtain ⟨p, q, hA0, hV, rfl, hfz, hnd⟩ := hW
  have hA : DataW.TrodAll enc Try.prog W 0 (fun _ => true) true Try.f5.params.toList args.toList ds p := hA0
  rw [Try.params5] at hA hval
  obtain ⟨v0, vs0, d0, ds0, p0, q0, hargs, rfl, rfl, h0, r0⟩ := trodAll_cons hA
  obtain ⟨v1, vs1, d1, ds1, p1, q1, rfl, rfl, rfl, h1, r1⟩ := trodAll_cons r0
  obtain ⟨v2, vs2, d2, ds2, p2, q2, rfl, rfl, rfl, h2, r2⟩ := trodAll_cons r1
  obtain ⟨v3, vs3, d3, ds3, p3, q3, rfl, rfl, rfl, h3, r3⟩ := trodAll_cons r2
  obtain ⟨rfl, rfl, rfl⟩ := trodAll_nil r3
  obtain rfl : args = #[v0, v1, v2, v3] := by cases args; simp_all
  obtain ⟨rfl, rfl⟩ := trodVars_none hV
  obtain ⟨fo0, lo0, ke0, sc0, mo0, iv0, rfl, rfl, s0, v0⟩ := plan_open (hval 0 23 v0 rfl rfl) h0
  obtain ⟨sp1, sn1, sc1, rfl⟩ := okWide_slice Try.underlying34 (hval 1 34 v1 rfl rfl)
  have k1 := h1
  have lt1 : ∀ x ∈ p1, x.block < W.heap.size := by obtain ⟨m, hm⟩ := k1; exact DataW.trod_lt m _ _ _ hm
  obtain ⟨ls1, rfl, hl1, wl1⟩ : ∃ xs : List Int, sn1 = xs.length ∧ NumsAt W (.slice sp1 sn1 sc1) xs ∧ ∀ g ∈ xs, (Lit.int .i64 g).wf = true := by
    obtain ⟨fuel, hf⟩ := h1
    exact nums_open hf
  obtain ⟨a2, rfl, rfl, rfl, w2⟩ := open_int Try.underlying3 (hval 2 3 v2 rfl rfl) h2
  obtain ⟨a3, rfl, rfl, rfl, w3⟩ := open_int Try.underlying3 (hval 3 3 v3 rfl rfl) h3
  clear hA0 hval0
  refine (walk W fo0 lo0 ke0 sc0 mo0 iv0 sp1 sc1 ls1 a2 a3 v0 wl1 hl1 w2 w3).mono fun e W' ⟨he, hg⟩ => ?_
  subst he
  exact ⟨_, rfl, _, _, _, [], _, [], hW', trodAll_mk1 (shut_bool Try.underlying4 _), (trodAll_cons_mk (s0 _ _) (trodAll_cons_mk (Below.trod laidOut (by kernel_rfl) (of_decide_eq_true (by kernel_rfl)) k1 hg.out lt1) (trodAll_cons_mk (shut_int Try.underlying3 w2) (trodAll_cons_mk (shut_int Try.underlying3 w3) trodAll_mk0)))), rfl, hg.out.frame _, fun h => by cases h⟩

theorem over : Rows.budgetLeastRow.holds Try.pinned (OpenSpec.ofChange Rows.budgetLeastSpec) :=
  OpenClaim.holds_of_wide 5 Try.f5 rfl rfl rfl rfl rfl rfl rfl ⟨rfl, rfl, rfl, rfl, rfl⟩ rfl rfl rfl rfl rfl (by kernel_rfl) Try.func5 (by kernel_rfl)
    (of_decide_eq_true (by kernel_rfl)) (by unfold Func.isWrapper; first | (rw [if_pos (by decide +kernel)]; kernel_rfl) | (rw [if_neg (by decide +kernel)]; exact ⟨rfl, rfl⟩))
    (fun os started H enc _ => lifted os started H enc)

/-- THE STATEMENT -/
theorem proved : Rows.BudgetLeastSaid :=
  over
#print axioms proved
end Go.Proofs.Ytmjghakodgihiaa.budgetLeast
