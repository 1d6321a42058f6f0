/-
  No cell of these rows narrows 'for every input' (looked for: loops, veiled, ifaces, maps, wideKeys, modest, calm, conditions, laid).
  DERIVED. THE GIVEN ROWS OF THIS SEAT. 4 by the template 'for every input the law returns true; each argument reads behind the call as it read before'; 0 by the template 'total and deterministic' (their statements: YtkbnhoapfjkajaaTotals.lean).
  GIVEN WITH THE SEED: the statements are not yours to turn. If you find one false, say at which input.
  Laid BY PROGRAM, IN A SANDBOX (cutbox-rows.mjs): the forced cells as the released guide's own fill.sh prints them over the translation 077d73ef613d61ef… (all of the seat's roots in one cut). By AI agents, Wed Nov 11 2026. No macro, syntax, notation, axiom, sorry.
-/
import Derived.Test.YtkbnhoapfjkajaaChecked
import GoSem.Claim
import GoSem.ClaimJoined
import GoSem.ClaimMapViews
import Derived.JoinedTies
import Derived.KernelRfl
namespace Go.Proofs.Ytkbnhoapfjkajaa
/- THE CELL 'sum', in the pinned program and in every row, IS THE sha256 OF THE DUMP (.gsa) THAT YtkbnhoapfjkajaaProg.lean LOADS. Nothing in Lean hashes anything: it is a label: what it is worth is what the hold of that sum in a sandbox is worth. -/
noncomputable def Try.pinned : Pinned := { name := "ytkbnhoapfjkajaa", sum := "077d73ef613d61efdb5a8c66d0f460ca418894085164f65a7a5668df976be3b3", checked := Try.checked }
namespace Rows
def none {H : Type} : Left H := { results := [], args := [] }

/-- 'headroomlaw07.RootsTells': WHATEVER THE INPUT: true; the input reads as it did. -/
def rootsTellsSpec : ChangeSpec := { name := "rootsTells", fn := fun _ => fun
  | [d1, d2, d3] => { results := [.lit (.bool true)], args := [d1, d2, d3] }
  | _ => none }
def rootsTellsRow : OpenClaim := { program := "ytkbnhoapfjkajaa", sum := "077d73ef613d61efdb5a8c66d0f460ca418894085164f65a7a5668df976be3b3", func := "headroom/headroomlaw07.RootsTells", spec := "rootsTells", unfollowed := true, recurses := true, apart := false }
def RootsTellsSaid : Prop := rootsTellsRow.holds Try.pinned (OpenSpec.ofChange rootsTellsSpec)

/-- ITS FALSE NEIGHBOUR: 'it returns false'. Refute it at one input. -/
def rootsTellsWrong : ChangeSpec := { name := "rootsTells", fn := fun _ => fun
  | [d1, d2, d3] => { results := [.lit (.bool false)], args := [d1, d2, d3] }
  | _ => none }
def RootsTellsWrongFalsely : Prop := rootsTellsRow.holds Try.pinned (OpenSpec.ofChange rootsTellsWrong)

/-- 'headroomlaw07.RootsTables': WHATEVER THE INPUT: true; the input reads as it did. -/
def rootsTablesSpec : ChangeSpec := { name := "rootsTables", fn := fun _ => fun
  | [d1, d2, d3] => { results := [.lit (.bool true)], args := [d1, d2, d3] }
  | _ => none }
def rootsTablesRow : OpenClaim := { program := "ytkbnhoapfjkajaa", sum := "077d73ef613d61efdb5a8c66d0f460ca418894085164f65a7a5668df976be3b3", func := "headroom/headroomlaw07.RootsTables", spec := "rootsTables", unfollowed := true, recurses := true, apart := false }
def RootsTablesSaid : Prop := rootsTablesRow.holds Try.pinned (OpenSpec.ofChange rootsTablesSpec)

/-- ITS FALSE NEIGHBOUR: 'it returns false'. Refute it at one input. -/
def rootsTablesWrong : ChangeSpec := { name := "rootsTables", fn := fun _ => fun
  | [d1, d2, d3] => { results := [.lit (.bool false)], args := [d1, d2, d3] }
  | _ => none }
def RootsTablesWrongFalsely : Prop := rootsTablesRow.holds Try.pinned (OpenSpec.ofChange rootsTablesWrong)

/-- 'headroomlaw07.RootsTurn': WHATEVER THE INPUT: true; the input reads as it did. -/
def rootsTurnSpec : ChangeSpec := { name := "rootsTurn", fn := fun _ => fun
  | [d1, d2, d3] => { results := [.lit (.bool true)], args := [d1, d2, d3] }
  | _ => none }
def rootsTurnRow : OpenClaim := { program := "ytkbnhoapfjkajaa", sum := "077d73ef613d61efdb5a8c66d0f460ca418894085164f65a7a5668df976be3b3", func := "headroom/headroomlaw07.RootsTurn", spec := "rootsTurn", unfollowed := true, recurses := true, apart := false }
def RootsTurnSaid : Prop := rootsTurnRow.holds Try.pinned (OpenSpec.ofChange rootsTurnSpec)

/-- ITS FALSE NEIGHBOUR: 'it returns false'. Refute it at one input. -/
def rootsTurnWrong : ChangeSpec := { name := "rootsTurn", fn := fun _ => fun
  | [d1, d2, d3] => { results := [.lit (.bool false)], args := [d1, d2, d3] }
  | _ => none }
def RootsTurnWrongFalsely : Prop := rootsTurnRow.holds Try.pinned (OpenSpec.ofChange rootsTurnWrong)

/-- 'headroomlaw07.RootsProduct': WHATEVER THE INPUT: true; the input reads as it did. -/
def rootsProductSpec : ChangeSpec := { name := "rootsProduct", fn := fun _ => fun
  | [d1, d2, d3, d4] => { results := [.lit (.bool true)], args := [d1, d2, d3, d4] }
  | _ => none }
def rootsProductRow : OpenClaim := { program := "ytkbnhoapfjkajaa", sum := "077d73ef613d61efdb5a8c66d0f460ca418894085164f65a7a5668df976be3b3", func := "headroom/headroomlaw07.RootsProduct", spec := "rootsProduct", unfollowed := true, recurses := true, apart := false }
def RootsProductSaid : Prop := rootsProductRow.holds Try.pinned (OpenSpec.ofChange rootsProductSpec)

/-- ITS FALSE NEIGHBOUR: 'it returns false'. Refute it at one input. -/
def rootsProductWrong : ChangeSpec := { name := "rootsProduct", fn := fun _ => fun
  | [d1, d2, d3, d4] => { results := [.lit (.bool false)], args := [d1, d2, d3, d4] }
  | _ => none }
def RootsProductWrongFalsely : Prop := rootsProductRow.holds Try.pinned (OpenSpec.ofChange rootsProductWrong)

/- THE SECOND FORM. 'bulk': how many values and letters a reading holds, each counted each time it is reached (what is shared counts as often as it is met; a slice's spare places count too). A statement '..UptoSaid' is the law's where the arguments, and the package variables that the reading takes, are together of bulk at most 1048576: NARROWER than '..Said'. Prove '..Said' where nothing that the law and all that it calls make is longer than what came in: it says more and counts as full. Else prove '..UptoSaid'. A law counts once. -/
mutual
def uptoBulk {H : Type} : DataW H → Nat
  | .lit (.string bytes) => bytes.length + 1
  | .lit _ => 1
  | .nil => 1
  | .ptr d => uptoBulk d + 1
  | .slice elems spare => uptoBulkAll elems + uptoBulkAll spare + 1
  | .agg parts => uptoBulkAll parts + 1
  | .iface _ d => uptoBulk d + 1
  | .map entries => uptoBulkEntries entries + 1
  | .held _ => 1
def uptoBulkAll {H : Type} : List (DataW H) → Nat
  | [] => 0
  | d :: r => uptoBulk d + uptoBulkAll r
def uptoBulkEntries {H : Type} : List (Lit × DataW H) → Nat
  | [] => 0
  | x :: r => uptoBulkEntry x + uptoBulkEntries r
def uptoBulkEntry {H : Type} : Lit × DataW H → Nat
  | (.string bytes, d) => bytes.length + uptoBulk d + 1
  | (_, d) => uptoBulk d + 1
 end
def uptoSmall : (H : Type) → List (DataW H) → Bool := fun _ ds => decide (uptoBulkAll ds ≤ 1048576)
def OpenSpec.upto (s : _root_.Go.ChangeSpec) : _root_.Go.OpenSpec := { _root_.Go.OpenSpec.ofChange s with cond := some uptoSmall }

/-- 'headroomlaw07.RootsTells', WHERE WHAT IT READS IS OF BULK AT MOST 1048576: true; the input reads as it did. -/
def rootsTellsUptoRow : OpenClaim := { program := "ytkbnhoapfjkajaa", sum := "077d73ef613d61efdb5a8c66d0f460ca418894085164f65a7a5668df976be3b3", func := "headroom/headroomlaw07.RootsTells", spec := "rootsTells", unfollowed := true, recurses := true, apart := false, narrowed := true }
def RootsTellsUptoSaid : Prop := rootsTellsUptoRow.holds Try.pinned (OpenSpec.upto rootsTellsSpec)

/-- 'headroomlaw07.RootsTables', WHERE WHAT IT READS IS OF BULK AT MOST 1048576: true; the input reads as it did. -/
def rootsTablesUptoRow : OpenClaim := { program := "ytkbnhoapfjkajaa", sum := "077d73ef613d61efdb5a8c66d0f460ca418894085164f65a7a5668df976be3b3", func := "headroom/headroomlaw07.RootsTables", spec := "rootsTables", unfollowed := true, recurses := true, apart := false, narrowed := true }
def RootsTablesUptoSaid : Prop := rootsTablesUptoRow.holds Try.pinned (OpenSpec.upto rootsTablesSpec)

/-- 'headroomlaw07.RootsTurn', WHERE WHAT IT READS IS OF BULK AT MOST 1048576: true; the input reads as it did. -/
def rootsTurnUptoRow : OpenClaim := { program := "ytkbnhoapfjkajaa", sum := "077d73ef613d61efdb5a8c66d0f460ca418894085164f65a7a5668df976be3b3", func := "headroom/headroomlaw07.RootsTurn", spec := "rootsTurn", unfollowed := true, recurses := true, apart := false, narrowed := true }
def RootsTurnUptoSaid : Prop := rootsTurnUptoRow.holds Try.pinned (OpenSpec.upto rootsTurnSpec)

/-- 'headroomlaw07.RootsProduct', WHERE WHAT IT READS IS OF BULK AT MOST 1048576: true; the input reads as it did. -/
def rootsProductUptoRow : OpenClaim := { program := "ytkbnhoapfjkajaa", sum := "077d73ef613d61efdb5a8c66d0f460ca418894085164f65a7a5668df976be3b3", func := "headroom/headroomlaw07.RootsProduct", spec := "rootsProduct", unfollowed := true, recurses := true, apart := false, narrowed := true }
def RootsProductUptoSaid : Prop := rootsProductUptoRow.holds Try.pinned (OpenSpec.upto rootsProductSpec)

end Rows
end Go.Proofs.Ytkbnhoapfjkajaa
