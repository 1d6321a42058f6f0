/- The small law that all of layer 11 call; four numbers as a function of the place. -/
import Derived.Test.YtomjldaonpjloaaFourCode7
import Derived.Test.YtomjldaonpjloaaRef11c
namespace Go.Proofs.Ytomjldaonpjloaa
open Go.ChangeShapes Go.WideShapes Go.ChangeAt Go.RowKit
set_option linter.unusedVariables false
set_option maxRecDepth 100000

def vec4 (a b c d : Gi) (k : Nat) : Gi := if k = 0 then a else if k = 1 then b else if k = 2 then c else d

set_option maxHeartbeats 2000000 in set_option maxRecDepth 100000 in
theorem alive11_c (w : World) :
    Calls Try.prog 19 #[] w fun e w' => e = .returned (.bool true) ∧ Gr w w' := by
  have H := fourQuad_ok 0 0 0 false (vec4 ⟨1, 0⟩ ⟨2, 0⟩ ⟨3, 0⟩ ⟨4, 0⟩) (vec4 ⟨1, 0⟩ ⟨1, 0⟩ ⟨1, 0⟩ ⟨1, 0⟩) (by unfold SetsOk2; omega)
    (fun k hk => by have hc : k = 0 ∨ k = 1 ∨ k = 2 ∨ k = 3 := by omega
                    rcases hc with rfl | rfl | rfl | rfl <;> exact Bd.mk (by simp [vec4]))
    (fun k hk _ => by have hc : k = 0 ∨ k = 1 ∨ k = 2 ∨ k = 3 := by omega
                      rcases hc with rfl | rfl | rfl | rfl <;> exact Bd.mk (by simp [vec4]))
  have e0 : quadL 0 0 0 false (vec4 ⟨1, 0⟩ ⟨2, 0⟩ ⟨3, 0⟩ ⟨4, 0⟩) (vec4 ⟨1, 0⟩ ⟨1, 0⟩ ⟨1, 0⟩ ⟨1, 0⟩) 0 = ⟨10, 0⟩ := Gi.ext2 (by decide +kernel) (by decide +kernel)
  have e1 : quadL 0 0 0 false (vec4 ⟨1, 0⟩ ⟨2, 0⟩ ⟨3, 0⟩ ⟨4, 0⟩) (vec4 ⟨1, 0⟩ ⟨1, 0⟩ ⟨1, 0⟩ ⟨1, 0⟩) 1 = ⟨-2, 2⟩ := Gi.ext2 (by decide +kernel) (by decide +kernel)
  have e2 : quadL 0 0 0 false (vec4 ⟨1, 0⟩ ⟨2, 0⟩ ⟨3, 0⟩ ⟨4, 0⟩) (vec4 ⟨1, 0⟩ ⟨1, 0⟩ ⟨1, 0⟩ ⟨1, 0⟩) 2 = ⟨-2, 0⟩ := Gi.ext2 (by decide +kernel) (by decide +kernel)
  have e3 : quadL 0 0 0 false (vec4 ⟨1, 0⟩ ⟨2, 0⟩ ⟨3, 0⟩ ⟨4, 0⟩) (vec4 ⟨1, 0⟩ ⟨1, 0⟩ ⟨1, 0⟩ ⟨1, 0⟩) 3 = ⟨-2, -2⟩ := Gi.ext2 (by decide +kernel) (by decide +kernel)
  rw [e0, e1, e2, e3] at H
  have HH : Hid (∀ W, Calls Try.prog 17 #[.agg #[.int .i64 1, .int .i64 0, .int .i64 2, .int .i64 0, .int .i64 3, .int .i64 0, .int .i64 4, .int .i64 0], .agg #[.int .i64 1, .int .i64 0, .int .i64 1, .int .i64 0, .int .i64 1, .int .i64 0, .int .i64 1, .int .i64 0], .int .i64 0, .int .i64 0, .int .i64 0, .bool false] W fun e w' => e = .returned (.tuple #[.agg #[.int .i64 10, .int .i64 0, .int .i64 (-2), .int .i64 2, .int .i64 (-2), .int .i64 0, .int .i64 (-2), .int .i64 (-2)], .int .i64 0]) ∧ Gr W w') := Lib.hid H
  clear H e0 e1 e2 e3
  go_enter Try.func19, Try.ntmps19
  go_wp2_with fail
  have heq : ∀ W, (Op.equalIn 10000 40 (.agg #[.int .i64 10, .int .i64 0, .int .i64 (-2), .int .i64 2, .int .i64 (-2), .int .i64 0, .int .i64 (-2), .int .i64 (-2)]) (.agg #[.int .i64 10, .int .i64 0, .int .i64 (-2), .int .i64 2, .int .i64 (-2), .int .i64 0, .int .i64 (-2), .int .i64 (-2)])).run Try.prog W = .ok true W := fun _ => by kernel_rfl
  refine (HH.out _).mono ?_
  rintro e w1 ⟨rfl, g1⟩
  go_wp2_with fail
  go_ret
  exact ⟨rfl, by repeat (first | exact Gr.refl _ | assumption | apply Gr.drew | apply Gr.alloc | refine Gr.trans ?_ g1)⟩

end Go.Proofs.Ytomjldaonpjloaa
