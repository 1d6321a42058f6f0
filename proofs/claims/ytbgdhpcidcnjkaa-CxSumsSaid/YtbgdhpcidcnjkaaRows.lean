/-
  No cell of these rows narrows 'for every input' (looked for: loops, veiled, ifaces, maps, wideKeys, modest, calm, conditions, laid).
  DERIVED. THE GIVEN ROWS OF THIS SEAT. 4 by the template 'for every input the law returns true; each argument reads behind the call as it read before'; 0 by the template 'total and deterministic' (their statements: YtbgdhpcidcnjkaaTotals.lean).
  GIVEN WITH THE SEED: the statements are not yours to turn. If you find one false, say at which input.
  Laid BY PROGRAM, IN A SANDBOX (cutbox-rows.mjs): the forced cells as the released guide's own fill.sh prints them over the translation 46ac1c113e79886d… (all of the seat's roots in one cut). By AI agents, Wed Nov 11 2026. No macro, syntax, notation, axiom, sorry.
-/
import Derived.Test.YtbgdhpcidcnjkaaChecked
import GoSem.Claim
import GoSem.ClaimJoined
import GoSem.ClaimMapViews
import Derived.JoinedTies
import Derived.KernelRfl
namespace Go.Proofs.Ytbgdhpcidcnjkaa
/- THE CELL 'sum', in the pinned program and in every row, IS THE sha256 OF THE DUMP (.gsa) THAT YtbgdhpcidcnjkaaProg.lean LOADS. Nothing in Lean hashes anything: it is a label: what it is worth is what the hold of that sum in a sandbox is worth. -/
noncomputable def Try.pinned : Pinned := { name := "ytbgdhpcidcnjkaa", sum := "46ac1c113e79886d6ee90afb7408eb70b62ef1b2f9db6289c7acfcdf78db4c27", checked := Try.checked }
namespace Rows
def none {H : Type} : Left H := { results := [], args := [] }

/-- 'headroomlaw03.CxSums': WHATEVER THE INPUT: true; the input reads as it did. -/
def cxSumsSpec : ChangeSpec := { name := "cxSums", fn := fun _ => fun
  | [d1, d2, d3] => { results := [.lit (.bool true)], args := [d1, d2, d3] }
  | _ => none }
def cxSumsRow : OpenClaim := { program := "ytbgdhpcidcnjkaa", sum := "46ac1c113e79886d6ee90afb7408eb70b62ef1b2f9db6289c7acfcdf78db4c27", func := "headroom/headroomlaw03.CxSums", spec := "cxSums", unfollowed := true, recurses := true, apart := false }
def CxSumsSaid : Prop := cxSumsRow.holds Try.pinned (OpenSpec.ofChange cxSumsSpec)

/-- ITS FALSE NEIGHBOUR: 'it returns false'. Refute it at one input. -/
def cxSumsWrong : ChangeSpec := { name := "cxSums", fn := fun _ => fun
  | [d1, d2, d3] => { results := [.lit (.bool false)], args := [d1, d2, d3] }
  | _ => none }
def CxSumsWrongFalsely : Prop := cxSumsRow.holds Try.pinned (OpenSpec.ofChange cxSumsWrong)

/-- 'headroomlaw03.CxTimes': WHATEVER THE INPUT: true; the input reads as it did. -/
def cxTimesSpec : ChangeSpec := { name := "cxTimes", fn := fun _ => fun
  | [d1, d2] => { results := [.lit (.bool true)], args := [d1, d2] }
  | _ => none }
def cxTimesRow : OpenClaim := { program := "ytbgdhpcidcnjkaa", sum := "46ac1c113e79886d6ee90afb7408eb70b62ef1b2f9db6289c7acfcdf78db4c27", func := "headroom/headroomlaw03.CxTimes", spec := "cxTimes", unfollowed := true, recurses := true, apart := false }
def CxTimesSaid : Prop := cxTimesRow.holds Try.pinned (OpenSpec.ofChange cxTimesSpec)

/-- ITS FALSE NEIGHBOUR: 'it returns false'. Refute it at one input. -/
def cxTimesWrong : ChangeSpec := { name := "cxTimes", fn := fun _ => fun
  | [d1, d2] => { results := [.lit (.bool false)], args := [d1, d2] }
  | _ => none }
def CxTimesWrongFalsely : Prop := cxTimesRow.holds Try.pinned (OpenSpec.ofChange cxTimesWrong)

/-- 'headroomlaw03.CxShifts': WHATEVER THE INPUT: true; the input reads as it did. -/
def cxShiftsSpec : ChangeSpec := { name := "cxShifts", fn := fun _ => fun
  | [d1, d2, d3] => { results := [.lit (.bool true)], args := [d1, d2, d3] }
  | _ => none }
def cxShiftsRow : OpenClaim := { program := "ytbgdhpcidcnjkaa", sum := "46ac1c113e79886d6ee90afb7408eb70b62ef1b2f9db6289c7acfcdf78db4c27", func := "headroom/headroomlaw03.CxShifts", spec := "cxShifts", unfollowed := true, recurses := true, apart := false }
def CxShiftsSaid : Prop := cxShiftsRow.holds Try.pinned (OpenSpec.ofChange cxShiftsSpec)

/-- ITS FALSE NEIGHBOUR: 'it returns false'. Refute it at one input. -/
def cxShiftsWrong : ChangeSpec := { name := "cxShifts", fn := fun _ => fun
  | [d1, d2, d3] => { results := [.lit (.bool false)], args := [d1, d2, d3] }
  | _ => none }
def CxShiftsWrongFalsely : Prop := cxShiftsRow.holds Try.pinned (OpenSpec.ofChange cxShiftsWrong)

/-- 'headroomlaw03.CxField': WHATEVER THE INPUT: true; the input reads as it did. -/
def cxFieldSpec : ChangeSpec := { name := "cxField", fn := fun _ => fun
  | [d1, d2, d3, d4] => { results := [.lit (.bool true)], args := [d1, d2, d3, d4] }
  | _ => none }
def cxFieldRow : OpenClaim := { program := "ytbgdhpcidcnjkaa", sum := "46ac1c113e79886d6ee90afb7408eb70b62ef1b2f9db6289c7acfcdf78db4c27", func := "headroom/headroomlaw03.CxField", spec := "cxField", unfollowed := true, recurses := true, apart := false }
def CxFieldSaid : Prop := cxFieldRow.holds Try.pinned (OpenSpec.ofChange cxFieldSpec)

/-- ITS FALSE NEIGHBOUR: 'it returns false'. Refute it at one input. -/
def cxFieldWrong : ChangeSpec := { name := "cxField", fn := fun _ => fun
  | [d1, d2, d3, d4] => { results := [.lit (.bool false)], args := [d1, d2, d3, d4] }
  | _ => none }
def CxFieldWrongFalsely : Prop := cxFieldRow.holds Try.pinned (OpenSpec.ofChange cxFieldWrong)

/- THE SECOND FORM. 'bulk': how many values and letters a reading holds, each counted each time it is reached (what is shared counts as often as it is met; a slice's spare places count too). A statement '..UptoSaid' is the law's where the arguments, and the package variables that the reading takes, are together of bulk at most 1048576: NARROWER than '..Said'. Prove '..Said' where nothing that the law and all that it calls make is longer than what came in: it says more and counts as full. Else prove '..UptoSaid'. A law counts once. -/
mutual
def uptoBulk {H : Type} : DataW H → Nat
  | .lit (.string bytes) => bytes.length + 1
  | .lit _ => 1
  | .nil => 1
  | .ptr d => uptoBulk d + 1
  | .slice elems spare => uptoBulkAll elems + uptoBulkAll spare + 1
  | .agg parts => uptoBulkAll parts + 1
  | .iface _ d => uptoBulk d + 1
  | .map entries => uptoBulkEntries entries + 1
  | .held _ => 1
def uptoBulkAll {H : Type} : List (DataW H) → Nat
  | [] => 0
  | d :: r => uptoBulk d + uptoBulkAll r
def uptoBulkEntries {H : Type} : List (Lit × DataW H) → Nat
  | [] => 0
  | x :: r => uptoBulkEntry x + uptoBulkEntries r
def uptoBulkEntry {H : Type} : Lit × DataW H → Nat
  | (.string bytes, d) => bytes.length + uptoBulk d + 1
  | (_, d) => uptoBulk d + 1
 end
def uptoSmall : (H : Type) → List (DataW H) → Bool := fun _ ds => decide (uptoBulkAll ds ≤ 1048576)
def OpenSpec.upto (s : _root_.Go.ChangeSpec) : _root_.Go.OpenSpec := { _root_.Go.OpenSpec.ofChange s with cond := some uptoSmall }

/-- 'headroomlaw03.CxSums', WHERE WHAT IT READS IS OF BULK AT MOST 1048576: true; the input reads as it did. -/
def cxSumsUptoRow : OpenClaim := { program := "ytbgdhpcidcnjkaa", sum := "46ac1c113e79886d6ee90afb7408eb70b62ef1b2f9db6289c7acfcdf78db4c27", func := "headroom/headroomlaw03.CxSums", spec := "cxSums", unfollowed := true, recurses := true, apart := false, narrowed := true }
def CxSumsUptoSaid : Prop := cxSumsUptoRow.holds Try.pinned (OpenSpec.upto cxSumsSpec)

/-- 'headroomlaw03.CxTimes', WHERE WHAT IT READS IS OF BULK AT MOST 1048576: true; the input reads as it did. -/
def cxTimesUptoRow : OpenClaim := { program := "ytbgdhpcidcnjkaa", sum := "46ac1c113e79886d6ee90afb7408eb70b62ef1b2f9db6289c7acfcdf78db4c27", func := "headroom/headroomlaw03.CxTimes", spec := "cxTimes", unfollowed := true, recurses := true, apart := false, narrowed := true }
def CxTimesUptoSaid : Prop := cxTimesUptoRow.holds Try.pinned (OpenSpec.upto cxTimesSpec)

/-- 'headroomlaw03.CxShifts', WHERE WHAT IT READS IS OF BULK AT MOST 1048576: true; the input reads as it did. -/
def cxShiftsUptoRow : OpenClaim := { program := "ytbgdhpcidcnjkaa", sum := "46ac1c113e79886d6ee90afb7408eb70b62ef1b2f9db6289c7acfcdf78db4c27", func := "headroom/headroomlaw03.CxShifts", spec := "cxShifts", unfollowed := true, recurses := true, apart := false, narrowed := true }
def CxShiftsUptoSaid : Prop := cxShiftsUptoRow.holds Try.pinned (OpenSpec.upto cxShiftsSpec)

/-- 'headroomlaw03.CxField', WHERE WHAT IT READS IS OF BULK AT MOST 1048576: true; the input reads as it did. -/
def cxFieldUptoRow : OpenClaim := { program := "ytbgdhpcidcnjkaa", sum := "46ac1c113e79886d6ee90afb7408eb70b62ef1b2f9db6289c7acfcdf78db4c27", func := "headroom/headroomlaw03.CxField", spec := "cxField", unfollowed := true, recurses := true, apart := false, narrowed := true }
def CxFieldUptoSaid : Prop := cxFieldUptoRow.holds Try.pinned (OpenSpec.upto cxFieldSpec)

end Rows
end Go.Proofs.Ytbgdhpcidcnjkaa
