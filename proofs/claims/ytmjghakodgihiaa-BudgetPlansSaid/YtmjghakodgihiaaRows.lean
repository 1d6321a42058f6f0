/-
  No cell of these rows narrows 'for every input' (looked for: loops, veiled, ifaces, maps, wideKeys, modest, calm, conditions, laid).
  DERIVED. THE GIVEN ROWS OF THIS SEAT. 4 by the template 'for every input the law returns true; each argument reads behind the call as it read before'; 0 by the template 'total and deterministic' (their statements: YtmjghakodgihiaaTotals.lean).
  GIVEN WITH THE SEED: the statements are not yours to turn. If you find one false, say at which input.
  Laid BY PROGRAM, IN A SANDBOX (cutbox-rows.mjs): the forced cells as the released guide's own fill.sh prints them over the translation 85229582c548402b… (all of the seat's roots in one cut). By AI agents, Wed Nov 11 2026. No macro, syntax, notation, axiom, sorry.
-/
import Derived.Test.YtmjghakodgihiaaChecked
import GoSem.Claim
import GoSem.ClaimJoined
import GoSem.ClaimMapViews
import Derived.JoinedTies
import Derived.KernelRfl
namespace Go.Proofs.Ytmjghakodgihiaa
/- THE CELL 'sum', in the pinned program and in every row, IS THE sha256 OF THE DUMP (.gsa) THAT YtmjghakodgihiaaProg.lean LOADS. Nothing in Lean hashes anything: it is a label: what it is worth is what the hold of that sum in a sandbox is worth. -/
noncomputable def Try.pinned : Pinned := { name := "ytmjghakodgihiaa", sum := "85229582c548402b386e452e507a045acbad3217895dc5c2643edf58b2671692", checked := Try.checked }
namespace Rows
def none {H : Type} : Left H := { results := [], args := [] }

/-- 'headroomlaw14.BudgetSteps': WHATEVER THE INPUT: true; the input reads as it did. -/
def budgetStepsSpec : ChangeSpec := { name := "budgetSteps", fn := fun _ => fun
  | [d1, d2, d3, d4, d5] => { results := [.lit (.bool true)], args := [d1, d2, d3, d4, d5] }
  | _ => none }
def budgetStepsRow : OpenClaim := { program := "ytmjghakodgihiaa", sum := "85229582c548402b386e452e507a045acbad3217895dc5c2643edf58b2671692", func := "headroom/headroomlaw14.BudgetSteps", spec := "budgetSteps", plainKeys := false, apart := false }
def BudgetStepsSaid : Prop := budgetStepsRow.holds Try.pinned (OpenSpec.ofChange budgetStepsSpec)

/-- ITS FALSE NEIGHBOUR: 'it returns false'. Refute it at one input. -/
def budgetStepsWrong : ChangeSpec := { name := "budgetSteps", fn := fun _ => fun
  | [d1, d2, d3, d4, d5] => { results := [.lit (.bool false)], args := [d1, d2, d3, d4, d5] }
  | _ => none }
def BudgetStepsWrongFalsely : Prop := budgetStepsRow.holds Try.pinned (OpenSpec.ofChange budgetStepsWrong)

/-- 'headroomlaw14.BudgetPlans': WHATEVER THE INPUT: true; the input reads as it did. -/
def budgetPlansSpec : ChangeSpec := { name := "budgetPlans", fn := fun _ => fun
  | [d1, d2] => { results := [.lit (.bool true)], args := [d1, d2] }
  | _ => none }
def budgetPlansRow : OpenClaim := { program := "ytmjghakodgihiaa", sum := "85229582c548402b386e452e507a045acbad3217895dc5c2643edf58b2671692", func := "headroom/headroomlaw14.BudgetPlans", spec := "budgetPlans", plainKeys := false, apart := false }
def BudgetPlansSaid : Prop := budgetPlansRow.holds Try.pinned (OpenSpec.ofChange budgetPlansSpec)

/-- ITS FALSE NEIGHBOUR: 'it returns false'. Refute it at one input. -/
def budgetPlansWrong : ChangeSpec := { name := "budgetPlans", fn := fun _ => fun
  | [d1, d2] => { results := [.lit (.bool false)], args := [d1, d2] }
  | _ => none }
def BudgetPlansWrongFalsely : Prop := budgetPlansRow.holds Try.pinned (OpenSpec.ofChange budgetPlansWrong)

/-- 'headroomlaw14.BudgetLeast': WHATEVER THE INPUT: true; the input reads as it did. -/
def budgetLeastSpec : ChangeSpec := { name := "budgetLeast", fn := fun _ => fun
  | [d1, d2, d3, d4] => { results := [.lit (.bool true)], args := [d1, d2, d3, d4] }
  | _ => none }
def budgetLeastRow : OpenClaim := { program := "ytmjghakodgihiaa", sum := "85229582c548402b386e452e507a045acbad3217895dc5c2643edf58b2671692", func := "headroom/headroomlaw14.BudgetLeast", spec := "budgetLeast", plainKeys := false, apart := false }
def BudgetLeastSaid : Prop := budgetLeastRow.holds Try.pinned (OpenSpec.ofChange budgetLeastSpec)

/-- ITS FALSE NEIGHBOUR: 'it returns false'. Refute it at one input. -/
def budgetLeastWrong : ChangeSpec := { name := "budgetLeast", fn := fun _ => fun
  | [d1, d2, d3, d4] => { results := [.lit (.bool false)], args := [d1, d2, d3, d4] }
  | _ => none }
def BudgetLeastWrongFalsely : Prop := budgetLeastRow.holds Try.pinned (OpenSpec.ofChange budgetLeastWrong)

/-- 'headroomlaw14.BudgetRises': WHATEVER THE INPUT: true; the input reads as it did. -/
def budgetRisesSpec : ChangeSpec := { name := "budgetRises", fn := fun _ => fun
  | [d1, d2, d3, d4, d5] => { results := [.lit (.bool true)], args := [d1, d2, d3, d4, d5] }
  | _ => none }
def budgetRisesRow : OpenClaim := { program := "ytmjghakodgihiaa", sum := "85229582c548402b386e452e507a045acbad3217895dc5c2643edf58b2671692", func := "headroom/headroomlaw14.BudgetRises", spec := "budgetRises", plainKeys := false, apart := false }
def BudgetRisesSaid : Prop := budgetRisesRow.holds Try.pinned (OpenSpec.ofChange budgetRisesSpec)

/-- ITS FALSE NEIGHBOUR: 'it returns false'. Refute it at one input. -/
def budgetRisesWrong : ChangeSpec := { name := "budgetRises", fn := fun _ => fun
  | [d1, d2, d3, d4, d5] => { results := [.lit (.bool false)], args := [d1, d2, d3, d4, d5] }
  | _ => none }
def BudgetRisesWrongFalsely : Prop := budgetRisesRow.holds Try.pinned (OpenSpec.ofChange budgetRisesWrong)

/- THE SECOND FORM. 'bulk': how many values and letters a reading holds, each counted each time it is reached (what is shared counts as often as it is met; a slice's spare places count too). A statement '..UptoSaid' is the law's where the arguments, and the package variables that the reading takes, are together of bulk at most 1048576: NARROWER than '..Said'. Prove '..Said' where nothing that the law and all that it calls make is longer than what came in: it says more and counts as full. Else prove '..UptoSaid'. A law counts once. -/
mutual
def uptoBulk {H : Type} : DataW H → Nat
  | .lit (.string bytes) => bytes.length + 1
  | .lit _ => 1
  | .nil => 1
  | .ptr d => uptoBulk d + 1
  | .slice elems spare => uptoBulkAll elems + uptoBulkAll spare + 1
  | .agg parts => uptoBulkAll parts + 1
  | .iface _ d => uptoBulk d + 1
  | .map entries => uptoBulkEntries entries + 1
  | .held _ => 1
def uptoBulkAll {H : Type} : List (DataW H) → Nat
  | [] => 0
  | d :: r => uptoBulk d + uptoBulkAll r
def uptoBulkEntries {H : Type} : List (Lit × DataW H) → Nat
  | [] => 0
  | x :: r => uptoBulkEntry x + uptoBulkEntries r
def uptoBulkEntry {H : Type} : Lit × DataW H → Nat
  | (.string bytes, d) => bytes.length + uptoBulk d + 1
  | (_, d) => uptoBulk d + 1
 end
def uptoSmall : (H : Type) → List (DataW H) → Bool := fun _ ds => decide (uptoBulkAll ds ≤ 1048576)
def OpenSpec.upto (s : _root_.Go.ChangeSpec) : _root_.Go.OpenSpec := { _root_.Go.OpenSpec.ofChange s with cond := some uptoSmall }

/-- 'headroomlaw14.BudgetSteps', WHERE WHAT IT READS IS OF BULK AT MOST 1048576: true; the input reads as it did. -/
def budgetStepsUptoRow : OpenClaim := { program := "ytmjghakodgihiaa", sum := "85229582c548402b386e452e507a045acbad3217895dc5c2643edf58b2671692", func := "headroom/headroomlaw14.BudgetSteps", spec := "budgetSteps", plainKeys := false, apart := false, narrowed := true }
def BudgetStepsUptoSaid : Prop := budgetStepsUptoRow.holds Try.pinned (OpenSpec.upto budgetStepsSpec)

/-- 'headroomlaw14.BudgetPlans', WHERE WHAT IT READS IS OF BULK AT MOST 1048576: true; the input reads as it did. -/
def budgetPlansUptoRow : OpenClaim := { program := "ytmjghakodgihiaa", sum := "85229582c548402b386e452e507a045acbad3217895dc5c2643edf58b2671692", func := "headroom/headroomlaw14.BudgetPlans", spec := "budgetPlans", plainKeys := false, apart := false, narrowed := true }
def BudgetPlansUptoSaid : Prop := budgetPlansUptoRow.holds Try.pinned (OpenSpec.upto budgetPlansSpec)

/-- 'headroomlaw14.BudgetLeast', WHERE WHAT IT READS IS OF BULK AT MOST 1048576: true; the input reads as it did. -/
def budgetLeastUptoRow : OpenClaim := { program := "ytmjghakodgihiaa", sum := "85229582c548402b386e452e507a045acbad3217895dc5c2643edf58b2671692", func := "headroom/headroomlaw14.BudgetLeast", spec := "budgetLeast", plainKeys := false, apart := false, narrowed := true }
def BudgetLeastUptoSaid : Prop := budgetLeastUptoRow.holds Try.pinned (OpenSpec.upto budgetLeastSpec)

/-- 'headroomlaw14.BudgetRises', WHERE WHAT IT READS IS OF BULK AT MOST 1048576: true; the input reads as it did. -/
def budgetRisesUptoRow : OpenClaim := { program := "ytmjghakodgihiaa", sum := "85229582c548402b386e452e507a045acbad3217895dc5c2643edf58b2671692", func := "headroom/headroomlaw14.BudgetRises", spec := "budgetRises", plainKeys := false, apart := false, narrowed := true }
def BudgetRisesUptoSaid : Prop := budgetRisesUptoRow.holds Try.pinned (OpenSpec.upto budgetRisesSpec)

end Rows
end Go.Proofs.Ytmjghakodgihiaa
