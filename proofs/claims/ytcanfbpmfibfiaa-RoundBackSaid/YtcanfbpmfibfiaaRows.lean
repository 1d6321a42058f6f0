/-
  No cell of these rows narrows 'for every input' (looked for: loops, veiled, ifaces, maps, wideKeys, modest, calm, conditions, laid).
  DERIVED. THE GIVEN ROWS OF THIS SEAT. 4 by the template 'for every input the law returns true; each argument reads behind the call as it read before'; 0 by the template 'total and deterministic' (their statements: YtcanfbpmfibfiaaTotals.lean).
  GIVEN WITH THE SEED: the statements are not yours to turn. If you find one false, say at which input.
  Laid BY PROGRAM, IN A SANDBOX (cutbox-rows.mjs): the forced cells as the released guide's own fill.sh prints them over the translation dcbd8a8e374e24f3… (all of the seat's roots in one cut). By AI agents, Wed Nov 11 2026. No macro, syntax, notation, axiom, sorry.
-/
import Derived.Test.YtcanfbpmfibfiaaChecked
import GoSem.Claim
import GoSem.ClaimJoined
import GoSem.ClaimMapViews
import Derived.JoinedTies
import Derived.KernelRfl
namespace Go.Proofs.Ytcanfbpmfibfiaa
/- THE CELL 'sum', in the pinned program and in every row, IS THE sha256 OF THE DUMP (.gsa) THAT YtcanfbpmfibfiaaProg.lean LOADS. Nothing in Lean hashes anything: it is a label: what it is worth is what the hold of that sum in a sandbox is worth. -/
noncomputable def Try.pinned : Pinned := { name := "ytcanfbpmfibfiaa", sum := "dcbd8a8e374e24f3e6b65d7b20deea3f93f7b67ed59622cc1c45d5ee8582b2b0", checked := Try.checked }
namespace Rows
def none {H : Type} : Left H := { results := [], args := [] }

/-- 'headroomlaw01.RoundShifts': WHATEVER THE INPUT: true; the input reads as it did. -/
def roundShiftsSpec : ChangeSpec := { name := "roundShifts", fn := fun _ => fun
  | [d1, d2, d3] => { results := [.lit (.bool true)], args := [d1, d2, d3] }
  | _ => none }
def roundShiftsRow : OpenClaim := { program := "ytcanfbpmfibfiaa", sum := "dcbd8a8e374e24f3e6b65d7b20deea3f93f7b67ed59622cc1c45d5ee8582b2b0", func := "headroom/headroomlaw01.RoundShifts", spec := "roundShifts", unfollowed := true, recurses := true, apart := false }
def RoundShiftsSaid : Prop := roundShiftsRow.holds Try.pinned (OpenSpec.ofChange roundShiftsSpec)

/-- ITS FALSE NEIGHBOUR: 'it returns false'. Refute it at one input. -/
def roundShiftsWrong : ChangeSpec := { name := "roundShifts", fn := fun _ => fun
  | [d1, d2, d3] => { results := [.lit (.bool false)], args := [d1, d2, d3] }
  | _ => none }
def RoundShiftsWrongFalsely : Prop := roundShiftsRow.holds Try.pinned (OpenSpec.ofChange roundShiftsWrong)

/-- 'headroomlaw01.RoundUps': WHATEVER THE INPUT: true; the input reads as it did. -/
def roundUpsSpec : ChangeSpec := { name := "roundUps", fn := fun _ => fun
  | [d1, d2, d3] => { results := [.lit (.bool true)], args := [d1, d2, d3] }
  | _ => none }
def roundUpsRow : OpenClaim := { program := "ytcanfbpmfibfiaa", sum := "dcbd8a8e374e24f3e6b65d7b20deea3f93f7b67ed59622cc1c45d5ee8582b2b0", func := "headroom/headroomlaw01.RoundUps", spec := "roundUps", unfollowed := true, recurses := true, apart := false }
def RoundUpsSaid : Prop := roundUpsRow.holds Try.pinned (OpenSpec.ofChange roundUpsSpec)

/-- ITS FALSE NEIGHBOUR: 'it returns false'. Refute it at one input. -/
def roundUpsWrong : ChangeSpec := { name := "roundUps", fn := fun _ => fun
  | [d1, d2, d3] => { results := [.lit (.bool false)], args := [d1, d2, d3] }
  | _ => none }
def RoundUpsWrongFalsely : Prop := roundUpsRow.holds Try.pinned (OpenSpec.ofChange roundUpsWrong)

/-- 'headroomlaw01.RoundNear': WHATEVER THE INPUT: true; the input reads as it did. -/
def roundNearSpec : ChangeSpec := { name := "roundNear", fn := fun _ => fun
  | [d1, d2, d3, d4] => { results := [.lit (.bool true)], args := [d1, d2, d3, d4] }
  | _ => none }
def roundNearRow : OpenClaim := { program := "ytcanfbpmfibfiaa", sum := "dcbd8a8e374e24f3e6b65d7b20deea3f93f7b67ed59622cc1c45d5ee8582b2b0", func := "headroom/headroomlaw01.RoundNear", spec := "roundNear", unfollowed := true, recurses := true, apart := false }
def RoundNearSaid : Prop := roundNearRow.holds Try.pinned (OpenSpec.ofChange roundNearSpec)

/-- ITS FALSE NEIGHBOUR: 'it returns false'. Refute it at one input. -/
def roundNearWrong : ChangeSpec := { name := "roundNear", fn := fun _ => fun
  | [d1, d2, d3, d4] => { results := [.lit (.bool false)], args := [d1, d2, d3, d4] }
  | _ => none }
def RoundNearWrongFalsely : Prop := roundNearRow.holds Try.pinned (OpenSpec.ofChange roundNearWrong)

/-- 'headroomlaw01.RoundBack': WHATEVER THE INPUT: true; the input reads as it did. -/
def roundBackSpec : ChangeSpec := { name := "roundBack", fn := fun _ => fun
  | [d1, d2, d3, d4] => { results := [.lit (.bool true)], args := [d1, d2, d3, d4] }
  | _ => none }
def roundBackRow : OpenClaim := { program := "ytcanfbpmfibfiaa", sum := "dcbd8a8e374e24f3e6b65d7b20deea3f93f7b67ed59622cc1c45d5ee8582b2b0", func := "headroom/headroomlaw01.RoundBack", spec := "roundBack", unfollowed := true, recurses := true, apart := false }
def RoundBackSaid : Prop := roundBackRow.holds Try.pinned (OpenSpec.ofChange roundBackSpec)

/-- ITS FALSE NEIGHBOUR: 'it returns false'. Refute it at one input. -/
def roundBackWrong : ChangeSpec := { name := "roundBack", fn := fun _ => fun
  | [d1, d2, d3, d4] => { results := [.lit (.bool false)], args := [d1, d2, d3, d4] }
  | _ => none }
def RoundBackWrongFalsely : Prop := roundBackRow.holds Try.pinned (OpenSpec.ofChange roundBackWrong)

/- THE SECOND FORM. 'bulk': how many values and letters a reading holds, each counted each time it is reached (what is shared counts as often as it is met; a slice's spare places count too). A statement '..UptoSaid' is the law's where the arguments, and the package variables that the reading takes, are together of bulk at most 1048576: NARROWER than '..Said'. Prove '..Said' where nothing that the law and all that it calls make is longer than what came in: it says more and counts as full. Else prove '..UptoSaid'. A law counts once. -/
mutual
def uptoBulk {H : Type} : DataW H → Nat
  | .lit (.string bytes) => bytes.length + 1
  | .lit _ => 1
  | .nil => 1
  | .ptr d => uptoBulk d + 1
  | .slice elems spare => uptoBulkAll elems + uptoBulkAll spare + 1
  | .agg parts => uptoBulkAll parts + 1
  | .iface _ d => uptoBulk d + 1
  | .map entries => uptoBulkEntries entries + 1
  | .held _ => 1
def uptoBulkAll {H : Type} : List (DataW H) → Nat
  | [] => 0
  | d :: r => uptoBulk d + uptoBulkAll r
def uptoBulkEntries {H : Type} : List (Lit × DataW H) → Nat
  | [] => 0
  | x :: r => uptoBulkEntry x + uptoBulkEntries r
def uptoBulkEntry {H : Type} : Lit × DataW H → Nat
  | (.string bytes, d) => bytes.length + uptoBulk d + 1
  | (_, d) => uptoBulk d + 1
 end
def uptoSmall : (H : Type) → List (DataW H) → Bool := fun _ ds => decide (uptoBulkAll ds ≤ 1048576)
def OpenSpec.upto (s : _root_.Go.ChangeSpec) : _root_.Go.OpenSpec := { _root_.Go.OpenSpec.ofChange s with cond := some uptoSmall }

/-- 'headroomlaw01.RoundShifts', WHERE WHAT IT READS IS OF BULK AT MOST 1048576: true; the input reads as it did. -/
def roundShiftsUptoRow : OpenClaim := { program := "ytcanfbpmfibfiaa", sum := "dcbd8a8e374e24f3e6b65d7b20deea3f93f7b67ed59622cc1c45d5ee8582b2b0", func := "headroom/headroomlaw01.RoundShifts", spec := "roundShifts", unfollowed := true, recurses := true, apart := false, narrowed := true }
def RoundShiftsUptoSaid : Prop := roundShiftsUptoRow.holds Try.pinned (OpenSpec.upto roundShiftsSpec)

/-- 'headroomlaw01.RoundUps', WHERE WHAT IT READS IS OF BULK AT MOST 1048576: true; the input reads as it did. -/
def roundUpsUptoRow : OpenClaim := { program := "ytcanfbpmfibfiaa", sum := "dcbd8a8e374e24f3e6b65d7b20deea3f93f7b67ed59622cc1c45d5ee8582b2b0", func := "headroom/headroomlaw01.RoundUps", spec := "roundUps", unfollowed := true, recurses := true, apart := false, narrowed := true }
def RoundUpsUptoSaid : Prop := roundUpsUptoRow.holds Try.pinned (OpenSpec.upto roundUpsSpec)

/-- 'headroomlaw01.RoundNear', WHERE WHAT IT READS IS OF BULK AT MOST 1048576: true; the input reads as it did. -/
def roundNearUptoRow : OpenClaim := { program := "ytcanfbpmfibfiaa", sum := "dcbd8a8e374e24f3e6b65d7b20deea3f93f7b67ed59622cc1c45d5ee8582b2b0", func := "headroom/headroomlaw01.RoundNear", spec := "roundNear", unfollowed := true, recurses := true, apart := false, narrowed := true }
def RoundNearUptoSaid : Prop := roundNearUptoRow.holds Try.pinned (OpenSpec.upto roundNearSpec)

/-- 'headroomlaw01.RoundBack', WHERE WHAT IT READS IS OF BULK AT MOST 1048576: true; the input reads as it did. -/
def roundBackUptoRow : OpenClaim := { program := "ytcanfbpmfibfiaa", sum := "dcbd8a8e374e24f3e6b65d7b20deea3f93f7b67ed59622cc1c45d5ee8582b2b0", func := "headroom/headroomlaw01.RoundBack", spec := "roundBack", unfollowed := true, recurses := true, apart := false, narrowed := true }
def RoundBackUptoSaid : Prop := roundBackUptoRow.holds Try.pinned (OpenSpec.upto roundBackSpec)

end Rows
end Go.Proofs.Ytcanfbpmfibfiaa
