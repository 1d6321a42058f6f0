/-
  No cell of these rows narrows 'for every input' (looked for: loops, veiled, ifaces, maps, wideKeys, modest, calm, conditions, laid).
  DERIVED. THE GIVEN ROWS OF THIS SEAT. 4 by the template 'for every input the law returns true; each argument reads behind the call as it read before'; 0 by the template 'total and deterministic' (their statements: YtmmhgcemkbgajaaTotals.lean).
  GIVEN WITH THE SEED: the statements are not yours to turn. If you find one false, say at which input.
  Laid BY PROGRAM, IN A SANDBOX (cutbox-rows.mjs): the forced cells as the released guide's own fill.sh prints them over the translation 850ef8c4ab70e461… (all of the seat's roots in one cut). By AI agents, Wed Nov 11 2026. No macro, syntax, notation, axiom, sorry.
-/
import Derived.Test.YtmmhgcemkbgajaaChecked
import GoSem.Claim
import GoSem.ClaimJoined
import GoSem.ClaimMapViews
import Derived.JoinedTies
import Derived.KernelRfl
namespace Go.Proofs.Ytmmhgcemkbgajaa
/- THE CELL 'sum', in the pinned program and in every row, IS THE sha256 OF THE DUMP (.gsa) THAT YtmmhgcemkbgajaaProg.lean LOADS. Nothing in Lean hashes anything: it is a label: what it is worth is what the hold of that sum in a sandbox is worth. -/
noncomputable def Try.pinned : Pinned := { name := "ytmmhgcemkbgajaa", sum := "850ef8c4ab70e4615ad36cea344cb878e84774b094f990d7ac34d7ecefc2f335", checked := Try.checked }
namespace Rows
def none {H : Type} : Left H := { results := [], args := [] }

/-- 'headroomlaw09.ScanMax': WHATEVER THE INPUT: true; the input reads as it did. -/
def scanMaxSpec : ChangeSpec := { name := "scanMax", fn := fun _ => fun
  | [d] => { results := [.lit (.bool true)], args := [d] }
  | _ => none }
def scanMaxRow : OpenClaim := { program := "ytmmhgcemkbgajaa", sum := "850ef8c4ab70e4615ad36cea344cb878e84774b094f990d7ac34d7ecefc2f335", func := "headroom/headroomlaw09.ScanMax", spec := "scanMax", apart := false }
def ScanMaxSaid : Prop := scanMaxRow.holds Try.pinned (OpenSpec.ofChange scanMaxSpec)

/-- ITS FALSE NEIGHBOUR: 'it returns false'. Refute it at one input. -/
def scanMaxWrong : ChangeSpec := { name := "scanMax", fn := fun _ => fun
  | [d] => { results := [.lit (.bool false)], args := [d] }
  | _ => none }
def ScanMaxWrongFalsely : Prop := scanMaxRow.holds Try.pinned (OpenSpec.ofChange scanMaxWrong)

/-- 'headroomlaw09.ScanRooms': WHATEVER THE INPUT: true; the input reads as it did. -/
def scanRoomsSpec : ChangeSpec := { name := "scanRooms", fn := fun _ => fun
  | [d1, d2, d3] => { results := [.lit (.bool true)], args := [d1, d2, d3] }
  | _ => none }
def scanRoomsRow : OpenClaim := { program := "ytmmhgcemkbgajaa", sum := "850ef8c4ab70e4615ad36cea344cb878e84774b094f990d7ac34d7ecefc2f335", func := "headroom/headroomlaw09.ScanRooms", spec := "scanRooms", recurses := true, apart := false }
def ScanRoomsSaid : Prop := scanRoomsRow.holds Try.pinned (OpenSpec.ofChange scanRoomsSpec)

/-- ITS FALSE NEIGHBOUR: 'it returns false'. Refute it at one input. -/
def scanRoomsWrong : ChangeSpec := { name := "scanRooms", fn := fun _ => fun
  | [d1, d2, d3] => { results := [.lit (.bool false)], args := [d1, d2, d3] }
  | _ => none }
def ScanRoomsWrongFalsely : Prop := scanRoomsRow.holds Try.pinned (OpenSpec.ofChange scanRoomsWrong)

/-- 'headroomlaw09.ScanShifts': WHATEVER THE INPUT: true; the input reads as it did. -/
def scanShiftsSpec : ChangeSpec := { name := "scanShifts", fn := fun _ => fun
  | [d1, d2, d3] => { results := [.lit (.bool true)], args := [d1, d2, d3] }
  | _ => none }
def scanShiftsRow : OpenClaim := { program := "ytmmhgcemkbgajaa", sum := "850ef8c4ab70e4615ad36cea344cb878e84774b094f990d7ac34d7ecefc2f335", func := "headroom/headroomlaw09.ScanShifts", spec := "scanShifts", unfollowed := true, recurses := true, apart := false }
def ScanShiftsSaid : Prop := scanShiftsRow.holds Try.pinned (OpenSpec.ofChange scanShiftsSpec)

/-- ITS FALSE NEIGHBOUR: 'it returns false'. Refute it at one input. -/
def scanShiftsWrong : ChangeSpec := { name := "scanShifts", fn := fun _ => fun
  | [d1, d2, d3] => { results := [.lit (.bool false)], args := [d1, d2, d3] }
  | _ => none }
def ScanShiftsWrongFalsely : Prop := scanShiftsRow.holds Try.pinned (OpenSpec.ofChange scanShiftsWrong)

/-- 'headroomlaw09.ScanFits': WHATEVER THE INPUT: true; the input reads as it did. -/
def scanFitsSpec : ChangeSpec := { name := "scanFits", fn := fun _ => fun
  | [d1, d2, d3, d4] => { results := [.lit (.bool true)], args := [d1, d2, d3, d4] }
  | _ => none }
def scanFitsRow : OpenClaim := { program := "ytmmhgcemkbgajaa", sum := "850ef8c4ab70e4615ad36cea344cb878e84774b094f990d7ac34d7ecefc2f335", func := "headroom/headroomlaw09.ScanFits", spec := "scanFits", unfollowed := true, recurses := true, apart := false }
def ScanFitsSaid : Prop := scanFitsRow.holds Try.pinned (OpenSpec.ofChange scanFitsSpec)

/-- ITS FALSE NEIGHBOUR: 'it returns false'. Refute it at one input. -/
def scanFitsWrong : ChangeSpec := { name := "scanFits", fn := fun _ => fun
  | [d1, d2, d3, d4] => { results := [.lit (.bool false)], args := [d1, d2, d3, d4] }
  | _ => none }
def ScanFitsWrongFalsely : Prop := scanFitsRow.holds Try.pinned (OpenSpec.ofChange scanFitsWrong)

/- THE SECOND FORM. 'bulk': how many values and letters a reading holds, each counted each time it is reached (what is shared counts as often as it is met; a slice's spare places count too). A statement '..UptoSaid' is the law's where the arguments, and the package variables that the reading takes, are together of bulk at most 1048576: NARROWER than '..Said'. Prove '..Said' where nothing that the law and all that it calls make is longer than what came in: it says more and counts as full. Else prove '..UptoSaid'. A law counts once. -/
mutual
def uptoBulk {H : Type} : DataW H → Nat
  | .lit (.string bytes) => bytes.length + 1
  | .lit _ => 1
  | .nil => 1
  | .ptr d => uptoBulk d + 1
  | .slice elems spare => uptoBulkAll elems + uptoBulkAll spare + 1
  | .agg parts => uptoBulkAll parts + 1
  | .iface _ d => uptoBulk d + 1
  | .map entries => uptoBulkEntries entries + 1
  | .held _ => 1
def uptoBulkAll {H : Type} : List (DataW H) → Nat
  | [] => 0
  | d :: r => uptoBulk d + uptoBulkAll r
def uptoBulkEntries {H : Type} : List (Lit × DataW H) → Nat
  | [] => 0
  | x :: r => uptoBulkEntry x + uptoBulkEntries r
def uptoBulkEntry {H : Type} : Lit × DataW H → Nat
  | (.string bytes, d) => bytes.length + uptoBulk d + 1
  | (_, d) => uptoBulk d + 1
 end
def uptoSmall : (H : Type) → List (DataW H) → Bool := fun _ ds => decide (uptoBulkAll ds ≤ 1048576)
def OpenSpec.upto (s : _root_.Go.ChangeSpec) : _root_.Go.OpenSpec := { _root_.Go.OpenSpec.ofChange s with cond := some uptoSmall }

/-- 'headroomlaw09.ScanMax', WHERE WHAT IT READS IS OF BULK AT MOST 1048576: true; the input reads as it did. -/
def scanMaxUptoRow : OpenClaim := { program := "ytmmhgcemkbgajaa", sum := "850ef8c4ab70e4615ad36cea344cb878e84774b094f990d7ac34d7ecefc2f335", func := "headroom/headroomlaw09.ScanMax", spec := "scanMax", apart := false, narrowed := true }
def ScanMaxUptoSaid : Prop := scanMaxUptoRow.holds Try.pinned (OpenSpec.upto scanMaxSpec)

/-- 'headroomlaw09.ScanRooms', WHERE WHAT IT READS IS OF BULK AT MOST 1048576: true; the input reads as it did. -/
def scanRoomsUptoRow : OpenClaim := { program := "ytmmhgcemkbgajaa", sum := "850ef8c4ab70e4615ad36cea344cb878e84774b094f990d7ac34d7ecefc2f335", func := "headroom/headroomlaw09.ScanRooms", spec := "scanRooms", recurses := true, apart := false, narrowed := true }
def ScanRoomsUptoSaid : Prop := scanRoomsUptoRow.holds Try.pinned (OpenSpec.upto scanRoomsSpec)

/-- 'headroomlaw09.ScanShifts', WHERE WHAT IT READS IS OF BULK AT MOST 1048576: true; the input reads as it did. -/
def scanShiftsUptoRow : OpenClaim := { program := "ytmmhgcemkbgajaa", sum := "850ef8c4ab70e4615ad36cea344cb878e84774b094f990d7ac34d7ecefc2f335", func := "headroom/headroomlaw09.ScanShifts", spec := "scanShifts", unfollowed := true, recurses := true, apart := false, narrowed := true }
def ScanShiftsUptoSaid : Prop := scanShiftsUptoRow.holds Try.pinned (OpenSpec.upto scanShiftsSpec)

/-- 'headroomlaw09.ScanFits', WHERE WHAT IT READS IS OF BULK AT MOST 1048576: true; the input reads as it did. -/
def scanFitsUptoRow : OpenClaim := { program := "ytmmhgcemkbgajaa", sum := "850ef8c4ab70e4615ad36cea344cb878e84774b094f990d7ac34d7ecefc2f335", func := "headroom/headroomlaw09.ScanFits", spec := "scanFits", unfollowed := true, recurses := true, apart := false, narrowed := true }
def ScanFitsUptoSaid : Prop := scanFitsUptoRow.holds Try.pinned (OpenSpec.upto scanFitsSpec)

end Rows
end Go.Proofs.Ytmmhgcemkbgajaa
