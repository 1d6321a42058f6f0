/- BudgetRises: all cases. -/
import Derived.Test.YtmjghakodgihiaaLaw14
namespace Go.Proofs.Ytmjghakodgihiaa
open Go.ChangeShapes Go.WideShapes Go.ChangeAt Go.RowKit
set_option linter.unusedVariables false
set_option linter.unusedSimpArgs false
set_option maxRecDepth 100000


theorem and39 (n : Int) : bits .and .i64 n 549755813887 = n % 549755813888 := by
  have h : (BitVec.ofInt 64 549755813887).toNat = 2 ^ 39 - 1 := by decide
  have key : (BitVec.ofInt 64 n &&& BitVec.ofInt 64 549755813887).toNat = (n % ((2 ^ 64 : Nat) : Int)).toNat % 2 ^ 39 := by
    rw [BitVec.toNat_and, BitVec.toNat_ofInt, h, Nat.and_two_pow_sub_one_eq_mod]
  show IntKind.i64.wrap ((BitVec.ofInt 64 n &&& BitVec.ofInt 64 549755813887).toNat : Nat) = n % 549755813888
  rw [key, IntKind.wrap_i64]
  omega


set_option maxHeartbeats 4000000 in
theorem budgetRises_bad (e0 more k sc s e m : Int) (he : bits BinOp.and IntKind.i64 e0 549755813887 = e) (hm : bits BinOp.and IntKind.i64 more 549755813887 = m) (e0' : 0 ≤ e) (e1 : e ≤ 549755813887) (m0 : 0 ≤ m) (m1 : m ≤ 549755813887)
    (HA : Hid (∀ W, Calls Try.prog 7 #[.int .i64 e, .int .i64 k, .int .i64 sc, .int .i64 s] W fun e' w' => e' = .returned (.tuple #[.int .i64 0, .int .i64 1]) ∧ Gr W w')) (HB : Hid (∀ W, Calls Try.prog 7 #[.int .i64 (e + m), .int .i64 k, .int .i64 sc, .int .i64 s] W fun e' w' => e' = .returned (.tuple #[.int .i64 0, .int .i64 1]) ∧ Gr W w')) (AL : Hid (∀ W, Calls Try.prog 11 #[] W fun e w' => e = .returned (.bool true) ∧ Gr W w')) (w : World) :
    Calls Try.prog 6 #[.int .i64 e0, .int .i64 more, .int .i64 k, .int .i64 sc, .int .i64 s] w fun e' w' => e' = .returned (.bool true) ∧ Gr w w' := by
  go_enter Try.func6, Try.ntmps6
  go_wp2_with fail
  refine (HA.out _).mono ?_
  rintro e' w1 ⟨rfl, g1⟩
  have y1 := g1
  go_wp2_with fail
  refine (HB.out _).mono ?_
  rintro e' w2 ⟨rfl, g2⟩
  have y2 := y1.trans g2
  go_wp2_with fail
  refine (AL.out _).mono ?_
  rintro e' w3 ⟨rfl, g3⟩
  have y3 := y2.trans g3
  go_wp2_with fail
  go_ret
  exact ⟨by first | rfl | simp, y3⟩


set_option maxHeartbeats 4000000 in
theorem budgetRises_ok (e0 more k sc s e m a b c d : Int) (he : bits BinOp.and IntKind.i64 e0 549755813887 = e) (hm : bits BinOp.and IntKind.i64 more 549755813887 = m) (e0' : 0 ≤ e) (e1 : e ≤ 549755813887) (m0 : 0 ≤ m) (m1 : m ≤ 549755813887) (hs0 : 0 ≤ s) (hs1 : s ≤ 3) (hd : e / 8 = d) (hab : a ≤ b) (had : d < a) (hca : c ≤ a)
    (HA : Hid (∀ W, Calls Try.prog 7 #[.int .i64 e, .int .i64 k, .int .i64 sc, .int .i64 s] W fun e' w' => e' = .returned (.tuple #[.int .i64 a, .int .i64 0]) ∧ Gr W w')) (HB : Hid (∀ W, Calls Try.prog 7 #[.int .i64 (e + m), .int .i64 k, .int .i64 sc, .int .i64 s] W fun e' w' => e' = .returned (.tuple #[.int .i64 b, .int .i64 0]) ∧ Gr W w')) (HC : Hid (∀ W, Calls Try.prog 7 #[.int .i64 e, .int .i64 k, .int .i64 sc, .int .i64 (s + 1)] W fun e' w' => e' = .returned (.tuple #[.int .i64 c, .int .i64 0]) ∧ Gr W w')) (AL : Hid (∀ W, Calls Try.prog 11 #[] W fun e w' => e = .returned (.bool true) ∧ Gr W w')) (w : World) :
    Calls Try.prog 6 #[.int .i64 e0, .int .i64 more, .int .i64 k, .int .i64 sc, .int .i64 s] w fun e' w' => e' = .returned (.bool true) ∧ Gr w w' := by
  go_enter Try.func6, Try.ntmps6
  go_wp2_with fail
  refine (HA.out _).mono ?_
  rintro e' w1 ⟨rfl, g1⟩
  have y1 := g1
  go_wp2_with fail
  refine (HB.out _).mono ?_
  rintro e' w2 ⟨rfl, g2⟩
  have y2 := y1.trans g2
  go_wp2_with fail
  refine (HC.out _).mono ?_
  rintro e' w3 ⟨rfl, g3⟩
  have y3 := y2.trans g3
  go_wp2_with fail
  refine (AL.out _).mono ?_
  rintro e' w4 ⟨rfl, g4⟩
  have y4 := y3.trans g4
  go_wp2_with fail
  go_ret
  exact ⟨by first | rfl | simp, y4⟩


set_option maxHeartbeats 4000000 in
theorem budgetRises_end (e0 more k sc s e m a b c d : Int) (he : bits BinOp.and IntKind.i64 e0 549755813887 = e) (hm : bits BinOp.and IntKind.i64 more 549755813887 = m) (e0' : 0 ≤ e) (e1 : e ≤ 549755813887) (m0 : 0 ≤ m) (m1 : m ≤ 549755813887) (hs0 : 0 ≤ s) (hs1 : s ≤ 3) (hd : e / 8 = d) (hab : a ≤ b) (had : d < a) 
    (HA : Hid (∀ W, Calls Try.prog 7 #[.int .i64 e, .int .i64 k, .int .i64 sc, .int .i64 s] W fun e' w' => e' = .returned (.tuple #[.int .i64 a, .int .i64 0]) ∧ Gr W w')) (HB : Hid (∀ W, Calls Try.prog 7 #[.int .i64 (e + m), .int .i64 k, .int .i64 sc, .int .i64 s] W fun e' w' => e' = .returned (.tuple #[.int .i64 b, .int .i64 0]) ∧ Gr W w')) (HC : Hid (∀ W, Calls Try.prog 7 #[.int .i64 e, .int .i64 k, .int .i64 sc, .int .i64 (s + 1)] W fun e' w' => e' = .returned (.tuple #[.int .i64 0, .int .i64 1]) ∧ Gr W w')) (AL : Hid (∀ W, Calls Try.prog 11 #[] W fun e w' => e = .returned (.bool true) ∧ Gr W w')) (w : World) :
    Calls Try.prog 6 #[.int .i64 e0, .int .i64 more, .int .i64 k, .int .i64 sc, .int .i64 s] w fun e' w' => e' = .returned (.bool true) ∧ Gr w w' := by
  go_enter Try.func6, Try.ntmps6
  go_wp2_with fail
  refine (HA.out _).mono ?_
  rintro e' w1 ⟨rfl, g1⟩
  have y1 := g1
  go_wp2_with fail
  refine (HB.out _).mono ?_
  rintro e' w2 ⟨rfl, g2⟩
  have y2 := y1.trans g2
  go_wp2_with fail
  refine (HC.out _).mono ?_
  rintro e' w3 ⟨rfl, g3⟩
  have y3 := y2.trans g3
  go_wp2_with fail
  refine (AL.out _).mono ?_
  rintro e' w4 ⟨rfl, g4⟩
  have y4 := y3.trans g4
  go_wp2_with fail
  go_ret
  exact ⟨by first | rfl | simp, y4⟩


end Go.Proofs.Ytmjghakodgihiaa
