/-
  No cell of these rows narrows 'for every input' (looked for: loops, veiled, ifaces, maps, wideKeys, modest, calm, conditions, laid).
  DERIVED. THE GIVEN ROWS OF THIS SEAT. 4 by the template 'for every input the law returns true; each argument reads behind the call as it read before'; 0 by the template 'total and deterministic' (their statements: YtbdglbpkbpedoaaTotals.lean).
  GIVEN WITH THE SEED: the statements are not yours to turn. If you find one false, say at which input.
  Laid BY PROGRAM, IN A SANDBOX (cutbox-rows.mjs): the forced cells as the released guide's own fill.sh prints them over the translation 5adb34376cc0fc07… (all of the seat's roots in one cut). By AI agents, Wed Nov 11 2026. No macro, syntax, notation, axiom, sorry.
-/
import Derived.Test.YtbdglbpkbpedoaaChecked
import GoSem.Claim
import GoSem.ClaimJoined
import GoSem.ClaimMapViews
import Derived.JoinedTies
import Derived.KernelRfl
namespace Go.Proofs.Ytbdglbpkbpedoaa
/- THE CELL 'sum', in the pinned program and in every row, IS THE sha256 OF THE DUMP (.gsa) THAT YtbdglbpkbpedoaaProg.lean LOADS. Nothing in Lean hashes anything: it is a label: what it is worth is what the hold of that sum in a sandbox is worth. -/
noncomputable def Try.pinned : Pinned := { name := "ytbdglbpkbpedoaa", sum := "5adb34376cc0fc079db70786dfc0520f3aa64b7759a33e436e0e3416ce834ed9", checked := Try.checked }
namespace Rows
def none {H : Type} : Left H := { results := [], args := [] }

/-- 'headroomlaw19.WindowTables': WHATEVER THE INPUT: true; the input reads as it did. -/
def windowTablesSpec : ChangeSpec := { name := "windowTables", fn := fun _ => fun
  | [d1, d2, d3] => { results := [.lit (.bool true)], args := [d1, d2, d3] }
  | _ => none }
def windowTablesRow : OpenClaim := { program := "ytbdglbpkbpedoaa", sum := "5adb34376cc0fc079db70786dfc0520f3aa64b7759a33e436e0e3416ce834ed9", func := "headroom/headroomlaw19.WindowTables", spec := "windowTables", unfollowed := true, recurses := true, apart := false }
def WindowTablesSaid : Prop := windowTablesRow.holds Try.pinned (OpenSpec.ofChange windowTablesSpec)

/-- ITS FALSE NEIGHBOUR: 'it returns false'. Refute it at one input. -/
def windowTablesWrong : ChangeSpec := { name := "windowTables", fn := fun _ => fun
  | [d1, d2, d3] => { results := [.lit (.bool false)], args := [d1, d2, d3] }
  | _ => none }
def WindowTablesWrongFalsely : Prop := windowTablesRow.holds Try.pinned (OpenSpec.ofChange windowTablesWrong)

/-- 'headroomlaw19.WindowWeighs': WHATEVER THE INPUT: true; the input reads as it did. -/
def windowWeighsSpec : ChangeSpec := { name := "windowWeighs", fn := fun _ => fun
  | [d1, d2, d3, d4] => { results := [.lit (.bool true)], args := [d1, d2, d3, d4] }
  | _ => none }
def windowWeighsRow : OpenClaim := { program := "ytbdglbpkbpedoaa", sum := "5adb34376cc0fc079db70786dfc0520f3aa64b7759a33e436e0e3416ce834ed9", func := "headroom/headroomlaw19.WindowWeighs", spec := "windowWeighs", unfollowed := true, recurses := true, apart := false }
def WindowWeighsSaid : Prop := windowWeighsRow.holds Try.pinned (OpenSpec.ofChange windowWeighsSpec)

/-- ITS FALSE NEIGHBOUR: 'it returns false'. Refute it at one input. -/
def windowWeighsWrong : ChangeSpec := { name := "windowWeighs", fn := fun _ => fun
  | [d1, d2, d3, d4] => { results := [.lit (.bool false)], args := [d1, d2, d3, d4] }
  | _ => none }
def WindowWeighsWrongFalsely : Prop := windowWeighsRow.holds Try.pinned (OpenSpec.ofChange windowWeighsWrong)

/-- 'headroomlaw19.WindowMirrors': WHATEVER THE INPUT: true; the input reads as it did. -/
def windowMirrorsSpec : ChangeSpec := { name := "windowMirrors", fn := fun _ => fun
  | [d1, d2, d3] => { results := [.lit (.bool true)], args := [d1, d2, d3] }
  | _ => none }
def windowMirrorsRow : OpenClaim := { program := "ytbdglbpkbpedoaa", sum := "5adb34376cc0fc079db70786dfc0520f3aa64b7759a33e436e0e3416ce834ed9", func := "headroom/headroomlaw19.WindowMirrors", spec := "windowMirrors", unfollowed := true, recurses := true, apart := false }
def WindowMirrorsSaid : Prop := windowMirrorsRow.holds Try.pinned (OpenSpec.ofChange windowMirrorsSpec)

/-- ITS FALSE NEIGHBOUR: 'it returns false'. Refute it at one input. -/
def windowMirrorsWrong : ChangeSpec := { name := "windowMirrors", fn := fun _ => fun
  | [d1, d2, d3] => { results := [.lit (.bool false)], args := [d1, d2, d3] }
  | _ => none }
def WindowMirrorsWrongFalsely : Prop := windowMirrorsRow.holds Try.pinned (OpenSpec.ofChange windowMirrorsWrong)

/-- 'headroomlaw19.WindowLess': WHATEVER THE INPUT: true; the input reads as it did. -/
def windowLessSpec : ChangeSpec := { name := "windowLess", fn := fun _ => fun
  | [d1, d2, d3, d4] => { results := [.lit (.bool true)], args := [d1, d2, d3, d4] }
  | _ => none }
def windowLessRow : OpenClaim := { program := "ytbdglbpkbpedoaa", sum := "5adb34376cc0fc079db70786dfc0520f3aa64b7759a33e436e0e3416ce834ed9", func := "headroom/headroomlaw19.WindowLess", spec := "windowLess", unfollowed := true, recurses := true, apart := false }
def WindowLessSaid : Prop := windowLessRow.holds Try.pinned (OpenSpec.ofChange windowLessSpec)

/-- ITS FALSE NEIGHBOUR: 'it returns false'. Refute it at one input. -/
def windowLessWrong : ChangeSpec := { name := "windowLess", fn := fun _ => fun
  | [d1, d2, d3, d4] => { results := [.lit (.bool false)], args := [d1, d2, d3, d4] }
  | _ => none }
def WindowLessWrongFalsely : Prop := windowLessRow.holds Try.pinned (OpenSpec.ofChange windowLessWrong)

/- THE SECOND FORM. 'bulk': how many values and letters a reading holds, each counted each time it is reached (what is shared counts as often as it is met; a slice's spare places count too). A statement '..UptoSaid' is the law's where the arguments, and the package variables that the reading takes, are together of bulk at most 1048576: NARROWER than '..Said'. Prove '..Said' where nothing that the law and all that it calls make is longer than what came in: it says more and counts as full. Else prove '..UptoSaid'. A law counts once. -/
mutual
def uptoBulk {H : Type} : DataW H → Nat
  | .lit (.string bytes) => bytes.length + 1
  | .lit _ => 1
  | .nil => 1
  | .ptr d => uptoBulk d + 1
  | .slice elems spare => uptoBulkAll elems + uptoBulkAll spare + 1
  | .agg parts => uptoBulkAll parts + 1
  | .iface _ d => uptoBulk d + 1
  | .map entries => uptoBulkEntries entries + 1
  | .held _ => 1
def uptoBulkAll {H : Type} : List (DataW H) → Nat
  | [] => 0
  | d :: r => uptoBulk d + uptoBulkAll r
def uptoBulkEntries {H : Type} : List (Lit × DataW H) → Nat
  | [] => 0
  | x :: r => uptoBulkEntry x + uptoBulkEntries r
def uptoBulkEntry {H : Type} : Lit × DataW H → Nat
  | (.string bytes, d) => bytes.length + uptoBulk d + 1
  | (_, d) => uptoBulk d + 1
 end
def uptoSmall : (H : Type) → List (DataW H) → Bool := fun _ ds => decide (uptoBulkAll ds ≤ 1048576)
def OpenSpec.upto (s : _root_.Go.ChangeSpec) : _root_.Go.OpenSpec := { _root_.Go.OpenSpec.ofChange s with cond := some uptoSmall }

/-- 'headroomlaw19.WindowTables', WHERE WHAT IT READS IS OF BULK AT MOST 1048576: true; the input reads as it did. -/
def windowTablesUptoRow : OpenClaim := { program := "ytbdglbpkbpedoaa", sum := "5adb34376cc0fc079db70786dfc0520f3aa64b7759a33e436e0e3416ce834ed9", func := "headroom/headroomlaw19.WindowTables", spec := "windowTables", unfollowed := true, recurses := true, apart := false, narrowed := true }
def WindowTablesUptoSaid : Prop := windowTablesUptoRow.holds Try.pinned (OpenSpec.upto windowTablesSpec)

/-- 'headroomlaw19.WindowWeighs', WHERE WHAT IT READS IS OF BULK AT MOST 1048576: true; the input reads as it did. -/
def windowWeighsUptoRow : OpenClaim := { program := "ytbdglbpkbpedoaa", sum := "5adb34376cc0fc079db70786dfc0520f3aa64b7759a33e436e0e3416ce834ed9", func := "headroom/headroomlaw19.WindowWeighs", spec := "windowWeighs", unfollowed := true, recurses := true, apart := false, narrowed := true }
def WindowWeighsUptoSaid : Prop := windowWeighsUptoRow.holds Try.pinned (OpenSpec.upto windowWeighsSpec)

/-- 'headroomlaw19.WindowMirrors', WHERE WHAT IT READS IS OF BULK AT MOST 1048576: true; the input reads as it did. -/
def windowMirrorsUptoRow : OpenClaim := { program := "ytbdglbpkbpedoaa", sum := "5adb34376cc0fc079db70786dfc0520f3aa64b7759a33e436e0e3416ce834ed9", func := "headroom/headroomlaw19.WindowMirrors", spec := "windowMirrors", unfollowed := true, recurses := true, apart := false, narrowed := true }
def WindowMirrorsUptoSaid : Prop := windowMirrorsUptoRow.holds Try.pinned (OpenSpec.upto windowMirrorsSpec)

/-- 'headroomlaw19.WindowLess', WHERE WHAT IT READS IS OF BULK AT MOST 1048576: true; the input reads as it did. -/
def windowLessUptoRow : OpenClaim := { program := "ytbdglbpkbpedoaa", sum := "5adb34376cc0fc079db70786dfc0520f3aa64b7759a33e436e0e3416ce834ed9", func := "headroom/headroomlaw19.WindowLess", spec := "windowLess", unfollowed := true, recurses := true, apart := false, narrowed := true }
def WindowLessUptoSaid : Prop := windowLessUptoRow.holds Try.pinned (OpenSpec.upto windowLessSpec)

end Rows
end Go.Proofs.Ytbdglbpkbpedoaa
