/-
  No cell of these rows narrows 'for every input' (looked for: loops, veiled, ifaces, maps, wideKeys, modest, calm, conditions, laid).
  DERIVED. THE GIVEN ROWS OF THIS SEAT. 3 by the template 'for every input the law returns true; each argument reads behind the call as it read before'; 0 by the template 'total and deterministic' (their statements: YtaogjlmcdacbeaaTotals.lean).
  GIVEN WITH THE SEED: the statements are not yours to turn. If you find one false, say at which input.
  Laid BY PROGRAM, IN A SANDBOX (cutbox-rows.mjs): the forced cells as the released guide's own fill.sh prints them over the translation a2252a2eca903059… (all of the seat's roots in one cut). By AI agents, Wed Nov 11 2026. No macro, syntax, notation, axiom, sorry.
-/
import Derived.Test.YtaogjlmcdacbeaaChecked
import GoSem.Claim
import GoSem.ClaimJoined
import GoSem.ClaimMapViews
import Derived.JoinedTies
import Derived.KernelRfl
namespace Go.Proofs.Ytaogjlmcdacbeaa
/- THE CELL 'sum', in the pinned program and in every row, IS THE sha256 OF THE DUMP (.gsa) THAT YtaogjlmcdacbeaaProg.lean LOADS. Nothing in Lean hashes anything: it is a label: what it is worth is what the hold of that sum in a sandbox is worth. -/
noncomputable def Try.pinned : Pinned := { name := "ytaogjlmcdacbeaa", sum := "a2252a2eca903059b3a445742969b146c2dbe1a8c69b74c876022a3d607c7f10", checked := Try.checked }
namespace Rows
def none {H : Type} : Left H := { results := [], args := [] }

/-- 'headroomlaw05.GainTells': WHATEVER THE INPUT: true; the input reads as it did. -/
def gainTellsSpec : ChangeSpec := { name := "gainTells", fn := fun _ => fun
  | [d1, d2] => { results := [.lit (.bool true)], args := [d1, d2] }
  | _ => none }
def gainTellsRow : OpenClaim := { program := "ytaogjlmcdacbeaa", sum := "a2252a2eca903059b3a445742969b146c2dbe1a8c69b74c876022a3d607c7f10", func := "headroom/headroomlaw05.GainTells", spec := "gainTells", unfollowed := true, recurses := true, apart := false }
def GainTellsSaid : Prop := gainTellsRow.holds Try.pinned (OpenSpec.ofChange gainTellsSpec)

/-- ITS FALSE NEIGHBOUR: 'it returns false'. Refute it at one input. -/
def gainTellsWrong : ChangeSpec := { name := "gainTells", fn := fun _ => fun
  | [d1, d2] => { results := [.lit (.bool false)], args := [d1, d2] }
  | _ => none }
def GainTellsWrongFalsely : Prop := gainTellsRow.holds Try.pinned (OpenSpec.ofChange gainTellsWrong)

/-- 'headroomlaw05.GainLeft': WHATEVER THE INPUT: true; the input reads as it did. -/
def gainLeftSpec : ChangeSpec := { name := "gainLeft", fn := fun _ => fun
  | [d1, d2] => { results := [.lit (.bool true)], args := [d1, d2] }
  | _ => none }
def gainLeftRow : OpenClaim := { program := "ytaogjlmcdacbeaa", sum := "a2252a2eca903059b3a445742969b146c2dbe1a8c69b74c876022a3d607c7f10", func := "headroom/headroomlaw05.GainLeft", spec := "gainLeft", unfollowed := true, recurses := true, apart := false }
def GainLeftSaid : Prop := gainLeftRow.holds Try.pinned (OpenSpec.ofChange gainLeftSpec)

/-- ITS FALSE NEIGHBOUR: 'it returns false'. Refute it at one input. -/
def gainLeftWrong : ChangeSpec := { name := "gainLeft", fn := fun _ => fun
  | [d1, d2] => { results := [.lit (.bool false)], args := [d1, d2] }
  | _ => none }
def GainLeftWrongFalsely : Prop := gainLeftRow.holds Try.pinned (OpenSpec.ofChange gainLeftWrong)

/-- 'headroomlaw05.GainInverse': WHATEVER THE INPUT: true; the input reads as it did. -/
def gainInverseSpec : ChangeSpec := { name := "gainInverse", fn := fun _ => fun
  | [d] => { results := [.lit (.bool true)], args := [d] }
  | _ => none }
def gainInverseRow : OpenClaim := { program := "ytaogjlmcdacbeaa", sum := "a2252a2eca903059b3a445742969b146c2dbe1a8c69b74c876022a3d607c7f10", func := "headroom/headroomlaw05.GainInverse", spec := "gainInverse", inPlace := ["math/bits.Add64"], unfollowed := true, recurses := true, apart := false }
def GainInverseSaid : Prop := gainInverseRow.holds Try.pinned (OpenSpec.ofChange gainInverseSpec)

/-- ITS FALSE NEIGHBOUR: 'it returns false'. Refute it at one input. -/
def gainInverseWrong : ChangeSpec := { name := "gainInverse", fn := fun _ => fun
  | [d] => { results := [.lit (.bool false)], args := [d] }
  | _ => none }
def GainInverseWrongFalsely : Prop := gainInverseRow.holds Try.pinned (OpenSpec.ofChange gainInverseWrong)

/- THE SECOND FORM. 'bulk': how many values and letters a reading holds, each counted each time it is reached (what is shared counts as often as it is met; a slice's spare places count too). A statement '..UptoSaid' is the law's where the arguments, and the package variables that the reading takes, are together of bulk at most 1048576: NARROWER than '..Said'. Prove '..Said' where nothing that the law and all that it calls make is longer than what came in: it says more and counts as full. Else prove '..UptoSaid'. A law counts once. -/
mutual
def uptoBulk {H : Type} : DataW H → Nat
  | .lit (.string bytes) => bytes.length + 1
  | .lit _ => 1
  | .nil => 1
  | .ptr d => uptoBulk d + 1
  | .slice elems spare => uptoBulkAll elems + uptoBulkAll spare + 1
  | .agg parts => uptoBulkAll parts + 1
  | .iface _ d => uptoBulk d + 1
  | .map entries => uptoBulkEntries entries + 1
  | .held _ => 1
def uptoBulkAll {H : Type} : List (DataW H) → Nat
  | [] => 0
  | d :: r => uptoBulk d + uptoBulkAll r
def uptoBulkEntries {H : Type} : List (Lit × DataW H) → Nat
  | [] => 0
  | x :: r => uptoBulkEntry x + uptoBulkEntries r
def uptoBulkEntry {H : Type} : Lit × DataW H → Nat
  | (.string bytes, d) => bytes.length + uptoBulk d + 1
  | (_, d) => uptoBulk d + 1
 end
def uptoSmall : (H : Type) → List (DataW H) → Bool := fun _ ds => decide (uptoBulkAll ds ≤ 1048576)
def OpenSpec.upto (s : _root_.Go.ChangeSpec) : _root_.Go.OpenSpec := { _root_.Go.OpenSpec.ofChange s with cond := some uptoSmall }

/-- 'headroomlaw05.GainTells', WHERE WHAT IT READS IS OF BULK AT MOST 1048576: true; the input reads as it did. -/
def gainTellsUptoRow : OpenClaim := { program := "ytaogjlmcdacbeaa", sum := "a2252a2eca903059b3a445742969b146c2dbe1a8c69b74c876022a3d607c7f10", func := "headroom/headroomlaw05.GainTells", spec := "gainTells", unfollowed := true, recurses := true, apart := false, narrowed := true }
def GainTellsUptoSaid : Prop := gainTellsUptoRow.holds Try.pinned (OpenSpec.upto gainTellsSpec)

/-- 'headroomlaw05.GainLeft', WHERE WHAT IT READS IS OF BULK AT MOST 1048576: true; the input reads as it did. -/
def gainLeftUptoRow : OpenClaim := { program := "ytaogjlmcdacbeaa", sum := "a2252a2eca903059b3a445742969b146c2dbe1a8c69b74c876022a3d607c7f10", func := "headroom/headroomlaw05.GainLeft", spec := "gainLeft", unfollowed := true, recurses := true, apart := false, narrowed := true }
def GainLeftUptoSaid : Prop := gainLeftUptoRow.holds Try.pinned (OpenSpec.upto gainLeftSpec)

/-- 'headroomlaw05.GainInverse', WHERE WHAT IT READS IS OF BULK AT MOST 1048576: true; the input reads as it did. -/
def gainInverseUptoRow : OpenClaim := { program := "ytaogjlmcdacbeaa", sum := "a2252a2eca903059b3a445742969b146c2dbe1a8c69b74c876022a3d607c7f10", func := "headroom/headroomlaw05.GainInverse", spec := "gainInverse", inPlace := ["math/bits.Add64"], unfollowed := true, recurses := true, apart := false, narrowed := true }
def GainInverseUptoSaid : Prop := gainInverseUptoRow.holds Try.pinned (OpenSpec.upto gainInverseSpec)

end Rows
end Go.Proofs.Ytaogjlmcdacbeaa
