/-
  No cell of these rows narrows 'for every input' (looked for: loops, veiled, ifaces, maps, wideKeys, modest, calm, conditions, laid).
  DERIVED. THE GIVEN ROWS OF THIS SEAT. 5 by the template 'for every input the law returns true; each argument reads behind the call as it read before'; 0 by the template 'total and deterministic' (their statements: YtomjldaonpjloaaTotals.lean).
  GIVEN WITH THE SEED: the statements are not yours to turn. If you find one false, say at which input.
  Laid BY PROGRAM, IN A SANDBOX (cutbox-rows.mjs): the forced cells as the released guide's own fill.sh prints them over the translation 023c4aac40a00e8e… (all of the seat's roots in one cut). By AI agents, Wed Nov 11 2026. No macro, syntax, notation, axiom, sorry.
-/
import Derived.Test.YtomjldaonpjloaaChecked
import GoSem.Claim
import GoSem.ClaimJoined
import GoSem.ClaimMapViews
import Derived.JoinedTies
import Derived.KernelRfl
namespace Go.Proofs.Ytomjldaonpjloaa
/- THE CELL 'sum', in the pinned program and in every row, IS THE sha256 OF THE DUMP (.gsa) THAT YtomjldaonpjloaaProg.lean LOADS. Nothing in Lean hashes anything: it is a label: what it is worth is what the hold of that sum in a sandbox is worth. -/
noncomputable def Try.pinned : Pinned := { name := "ytomjldaonpjloaa", sum := "023c4aac40a00e8effd010456c67f762aae9b24f4f86973641b43a52b582a385", checked := Try.checked }
namespace Rows
def none {H : Type} : Left H := { results := [], args := [] }

/-- 'headroomlaw13.PlanChecks': WHATEVER THE INPUT: true; the input reads as it did. -/
def planChecksSpec : ChangeSpec := { name := "planChecks", fn := fun _ => fun
  | [d] => { results := [.lit (.bool true)], args := [d] }
  | _ => none }
def planChecksRow : OpenClaim := { program := "ytomjldaonpjloaa", sum := "023c4aac40a00e8effd010456c67f762aae9b24f4f86973641b43a52b582a385", func := "headroom/headroomlaw13.PlanChecks", spec := "planChecks", apart := false }
def PlanChecksSaid : Prop := planChecksRow.holds Try.pinned (OpenSpec.ofChange planChecksSpec)

/-- ITS FALSE NEIGHBOUR: 'it returns false'. Refute it at one input. -/
def planChecksWrong : ChangeSpec := { name := "planChecks", fn := fun _ => fun
  | [d] => { results := [.lit (.bool false)], args := [d] }
  | _ => none }
def PlanChecksWrongFalsely : Prop := planChecksRow.holds Try.pinned (OpenSpec.ofChange planChecksWrong)

/-- 'headroomlaw13.PlanEvery': WHATEVER THE INPUT: true; the input reads as it did. -/
def planEverySpec : ChangeSpec := { name := "planEvery", fn := fun _ => fun
  | [d] => { results := [.lit (.bool true)], args := [d] }
  | _ => none }
def planEveryRow : OpenClaim := { program := "ytomjldaonpjloaa", sum := "023c4aac40a00e8effd010456c67f762aae9b24f4f86973641b43a52b582a385", func := "headroom/headroomlaw13.PlanEvery", spec := "planEvery", unfollowed := true, recurses := true, apart := false }
def PlanEverySaid : Prop := planEveryRow.holds Try.pinned (OpenSpec.ofChange planEverySpec)

/-- ITS FALSE NEIGHBOUR: 'it returns false'. Refute it at one input. -/
def planEveryWrong : ChangeSpec := { name := "planEvery", fn := fun _ => fun
  | [d] => { results := [.lit (.bool false)], args := [d] }
  | _ => none }
def PlanEveryWrongFalsely : Prop := planEveryRow.holds Try.pinned (OpenSpec.ofChange planEveryWrong)

/-- 'headroomlaw13.PlanGoes': WHATEVER THE INPUT: true; the input reads as it did. -/
def planGoesSpec : ChangeSpec := { name := "planGoes", fn := fun _ => fun
  | [d1, d2, d3] => { results := [.lit (.bool true)], args := [d1, d2, d3] }
  | _ => none }
def planGoesRow : OpenClaim := { program := "ytomjldaonpjloaa", sum := "023c4aac40a00e8effd010456c67f762aae9b24f4f86973641b43a52b582a385", func := "headroom/headroomlaw13.PlanGoes", spec := "planGoes", apart := false }
def PlanGoesSaid : Prop := planGoesRow.holds Try.pinned (OpenSpec.ofChange planGoesSpec)

/-- ITS FALSE NEIGHBOUR: 'it returns false'. Refute it at one input. -/
def planGoesWrong : ChangeSpec := { name := "planGoes", fn := fun _ => fun
  | [d1, d2, d3] => { results := [.lit (.bool false)], args := [d1, d2, d3] }
  | _ => none }
def PlanGoesWrongFalsely : Prop := planGoesRow.holds Try.pinned (OpenSpec.ofChange planGoesWrong)

/-- 'headroomlaw11.FourQuads': WHATEVER THE INPUT: true; the input reads as it did. -/
def fourQuadsSpec : ChangeSpec := { name := "fourQuads", fn := fun _ => fun
  | [d1, d2, d3, d4, d5, d6] => { results := [.lit (.bool true)], args := [d1, d2, d3, d4, d5, d6] }
  | _ => none }
def fourQuadsRow : OpenClaim := { program := "ytomjldaonpjloaa", sum := "023c4aac40a00e8effd010456c67f762aae9b24f4f86973641b43a52b582a385", func := "headroom/headroomlaw11.FourQuads", spec := "fourQuads", unfollowed := true, recurses := true, apart := false }
def FourQuadsSaid : Prop := fourQuadsRow.holds Try.pinned (OpenSpec.ofChange fourQuadsSpec)

/-- ITS FALSE NEIGHBOUR: 'it returns false'. Refute it at one input. -/
def fourQuadsWrong : ChangeSpec := { name := "fourQuads", fn := fun _ => fun
  | [d1, d2, d3, d4, d5, d6] => { results := [.lit (.bool false)], args := [d1, d2, d3, d4, d5, d6] }
  | _ => none }
def FourQuadsWrongFalsely : Prop := fourQuadsRow.holds Try.pinned (OpenSpec.ofChange fourQuadsWrong)

/-- 'headroomlaw11.FourTwos': WHATEVER THE INPUT: true; the input reads as it did. -/
def fourTwosSpec : ChangeSpec := { name := "fourTwos", fn := fun _ => fun
  | [d1, d2] => { results := [.lit (.bool true)], args := [d1, d2] }
  | _ => none }
def fourTwosRow : OpenClaim := { program := "ytomjldaonpjloaa", sum := "023c4aac40a00e8effd010456c67f762aae9b24f4f86973641b43a52b582a385", func := "headroom/headroomlaw11.FourTwos", spec := "fourTwos", unfollowed := true, recurses := true, apart := false }
def FourTwosSaid : Prop := fourTwosRow.holds Try.pinned (OpenSpec.ofChange fourTwosSpec)

/-- ITS FALSE NEIGHBOUR: 'it returns false'. Refute it at one input. -/
def fourTwosWrong : ChangeSpec := { name := "fourTwos", fn := fun _ => fun
  | [d1, d2] => { results := [.lit (.bool false)], args := [d1, d2] }
  | _ => none }
def FourTwosWrongFalsely : Prop := fourTwosRow.holds Try.pinned (OpenSpec.ofChange fourTwosWrong)

/- THE SECOND FORM. 'bulk': how many values and letters a reading holds, each counted each time it is reached (what is shared counts as often as it is met; a slice's spare places count too). A statement '..UptoSaid' is the law's where the arguments, and the package variables that the reading takes, are together of bulk at most 1048576: NARROWER than '..Said'. Prove '..Said' where nothing that the law and all that it calls make is longer than what came in: it says more and counts as full. Else prove '..UptoSaid'. A law counts once. -/
mutual
def uptoBulk {H : Type} : DataW H → Nat
  | .lit (.string bytes) => bytes.length + 1
  | .lit _ => 1
  | .nil => 1
  | .ptr d => uptoBulk d + 1
  | .slice elems spare => uptoBulkAll elems + uptoBulkAll spare + 1
  | .agg parts => uptoBulkAll parts + 1
  | .iface _ d => uptoBulk d + 1
  | .map entries => uptoBulkEntries entries + 1
  | .held _ => 1
def uptoBulkAll {H : Type} : List (DataW H) → Nat
  | [] => 0
  | d :: r => uptoBulk d + uptoBulkAll r
def uptoBulkEntries {H : Type} : List (Lit × DataW H) → Nat
  | [] => 0
  | x :: r => uptoBulkEntry x + uptoBulkEntries r
def uptoBulkEntry {H : Type} : Lit × DataW H → Nat
  | (.string bytes, d) => bytes.length + uptoBulk d + 1
  | (_, d) => uptoBulk d + 1
 end
def uptoSmall : (H : Type) → List (DataW H) → Bool := fun _ ds => decide (uptoBulkAll ds ≤ 1048576)
def OpenSpec.upto (s : _root_.Go.ChangeSpec) : _root_.Go.OpenSpec := { _root_.Go.OpenSpec.ofChange s with cond := some uptoSmall }

/-- 'headroomlaw13.PlanChecks', WHERE WHAT IT READS IS OF BULK AT MOST 1048576: true; the input reads as it did. -/
def planChecksUptoRow : OpenClaim := { program := "ytomjldaonpjloaa", sum := "023c4aac40a00e8effd010456c67f762aae9b24f4f86973641b43a52b582a385", func := "headroom/headroomlaw13.PlanChecks", spec := "planChecks", apart := false, narrowed := true }
def PlanChecksUptoSaid : Prop := planChecksUptoRow.holds Try.pinned (OpenSpec.upto planChecksSpec)

/-- 'headroomlaw13.PlanEvery', WHERE WHAT IT READS IS OF BULK AT MOST 1048576: true; the input reads as it did. -/
def planEveryUptoRow : OpenClaim := { program := "ytomjldaonpjloaa", sum := "023c4aac40a00e8effd010456c67f762aae9b24f4f86973641b43a52b582a385", func := "headroom/headroomlaw13.PlanEvery", spec := "planEvery", unfollowed := true, recurses := true, apart := false, narrowed := true }
def PlanEveryUptoSaid : Prop := planEveryUptoRow.holds Try.pinned (OpenSpec.upto planEverySpec)

/-- 'headroomlaw13.PlanGoes', WHERE WHAT IT READS IS OF BULK AT MOST 1048576: true; the input reads as it did. -/
def planGoesUptoRow : OpenClaim := { program := "ytomjldaonpjloaa", sum := "023c4aac40a00e8effd010456c67f762aae9b24f4f86973641b43a52b582a385", func := "headroom/headroomlaw13.PlanGoes", spec := "planGoes", apart := false, narrowed := true }
def PlanGoesUptoSaid : Prop := planGoesUptoRow.holds Try.pinned (OpenSpec.upto planGoesSpec)

/-- 'headroomlaw11.FourQuads', WHERE WHAT IT READS IS OF BULK AT MOST 1048576: true; the input reads as it did. -/
def fourQuadsUptoRow : OpenClaim := { program := "ytomjldaonpjloaa", sum := "023c4aac40a00e8effd010456c67f762aae9b24f4f86973641b43a52b582a385", func := "headroom/headroomlaw11.FourQuads", spec := "fourQuads", unfollowed := true, recurses := true, apart := false, narrowed := true }
def FourQuadsUptoSaid : Prop := fourQuadsUptoRow.holds Try.pinned (OpenSpec.upto fourQuadsSpec)

/-- 'headroomlaw11.FourTwos', WHERE WHAT IT READS IS OF BULK AT MOST 1048576: true; the input reads as it did. -/
def fourTwosUptoRow : OpenClaim := { program := "ytomjldaonpjloaa", sum := "023c4aac40a00e8effd010456c67f762aae9b24f4f86973641b43a52b582a385", func := "headroom/headroomlaw11.FourTwos", spec := "fourTwos", unfollowed := true, recurses := true, apart := false, narrowed := true }
def FourTwosUptoSaid : Prop := fourTwosUptoRow.holds Try.pinned (OpenSpec.upto fourTwosSpec)

end Rows
end Go.Proofs.Ytomjldaonpjloaa
