/-
  No cell of these rows narrows 'for every input' (looked for: loops, veiled, ifaces, maps, wideKeys, modest, calm, conditions, laid).
  DERIVED. THE GIVEN ROWS OF THIS SEAT. 4 by the template 'for every input the law returns true; each argument reads behind the call as it read before'; 0 by the template 'total and deterministic' (their statements: YtdignnmpfkgkoaaGreatTotals.lean).
  GIVEN WITH THE SEED: the statements are not yours to turn. If you find one false, say at which input.
  Laid BY PROGRAM, IN A SANDBOX (cutbox-rows.mjs): the forced cells as the released guide's own fill.sh prints them over the translation 87b143362bf556bd… (all of the seat's roots in one cut). By AI agents, Wed Nov 11 2026. No macro, syntax, notation, axiom, sorry.
-/
import Derived.Test.YtdignnmpfkgkoaaGreatChecked
import GoSem.Claim
import GoSem.ClaimJoined
import GoSem.ClaimMapViews
import Derived.JoinedTies
import Derived.KernelRfl
namespace Go.Proofs.YtdignnmpfkgkoaaGreat
/- THE CELL 'sum', in the pinned program and in every row, IS THE sha256 OF THE DUMP (.gsa) THAT YtdignnmpfkgkoaaGreatProg.lean LOADS. Nothing in Lean hashes anything: it is a label: what it is worth is what the hold of that sum in a sandbox is worth. -/
noncomputable def Tryz.pinned : Pinned := { name := "ytdignnmpfkgkoaagreat", sum := "87b143362bf556bdc0c54984955e18adf5f77c9ada2a27e643eb0cbafacc434f", checked := Tryz.checked }
namespace Rows
def none {H : Type} : Left H := { results := [], args := [] }

/-- 'headroomlaw18.RealBins': WHATEVER THE INPUT: true; the input reads as it did. -/
def realBinsSpec : ChangeSpec := { name := "realBins", fn := fun _ => fun
  | [d1, d2] => { results := [.lit (.bool true)], args := [d1, d2] }
  | _ => none }
def realBinsRow : OpenClaim := { program := "ytdignnmpfkgkoaagreat", sum := "87b143362bf556bdc0c54984955e18adf5f77c9ada2a27e643eb0cbafacc434f", func := "headroom/headroomlaw18.RealBins", spec := "realBins", unfollowed := true, recurses := true, plainKeys := false, apart := false }
def RealBinsSaid : Prop := realBinsRow.holds Tryz.pinned (OpenSpec.ofChange realBinsSpec)

/-- ITS FALSE NEIGHBOUR: 'it returns false'. Refute it at one input. -/
def realBinsWrong : ChangeSpec := { name := "realBins", fn := fun _ => fun
  | [d1, d2] => { results := [.lit (.bool false)], args := [d1, d2] }
  | _ => none }
def RealBinsWrongFalsely : Prop := realBinsRow.holds Tryz.pinned (OpenSpec.ofChange realBinsWrong)

/-- 'headroomlaw18.RealUntangles': WHATEVER THE INPUT: true; the input reads as it did. -/
def realUntanglesSpec : ChangeSpec := { name := "realUntangles", fn := fun _ => fun
  | [d1, d2] => { results := [.lit (.bool true)], args := [d1, d2] }
  | _ => none }
def realUntanglesRow : OpenClaim := { program := "ytdignnmpfkgkoaagreat", sum := "87b143362bf556bdc0c54984955e18adf5f77c9ada2a27e643eb0cbafacc434f", func := "headroom/headroomlaw18.RealUntangles", spec := "realUntangles", unfollowed := true, recurses := true, plainKeys := false, apart := false }
def RealUntanglesSaid : Prop := realUntanglesRow.holds Tryz.pinned (OpenSpec.ofChange realUntanglesSpec)

/-- ITS FALSE NEIGHBOUR: 'it returns false'. Refute it at one input. -/
def realUntanglesWrong : ChangeSpec := { name := "realUntangles", fn := fun _ => fun
  | [d1, d2] => { results := [.lit (.bool false)], args := [d1, d2] }
  | _ => none }
def RealUntanglesWrongFalsely : Prop := realUntanglesRow.holds Tryz.pinned (OpenSpec.ofChange realUntanglesWrong)

/-- 'headroomlaw18.RealEnds': WHATEVER THE INPUT: true; the input reads as it did. -/
def realEndsSpec : ChangeSpec := { name := "realEnds", fn := fun _ => fun
  | [d1, d2] => { results := [.lit (.bool true)], args := [d1, d2] }
  | _ => none }
def realEndsRow : OpenClaim := { program := "ytdignnmpfkgkoaagreat", sum := "87b143362bf556bdc0c54984955e18adf5f77c9ada2a27e643eb0cbafacc434f", func := "headroom/headroomlaw18.RealEnds", spec := "realEnds", unfollowed := true, recurses := true, plainKeys := false, apart := false }
def RealEndsSaid : Prop := realEndsRow.holds Tryz.pinned (OpenSpec.ofChange realEndsSpec)

/-- ITS FALSE NEIGHBOUR: 'it returns false'. Refute it at one input. -/
def realEndsWrong : ChangeSpec := { name := "realEnds", fn := fun _ => fun
  | [d1, d2] => { results := [.lit (.bool false)], args := [d1, d2] }
  | _ => none }
def RealEndsWrongFalsely : Prop := realEndsRow.holds Tryz.pinned (OpenSpec.ofChange realEndsWrong)

/-- 'headroomlaw18.RealNear': WHATEVER THE INPUT: true; the input reads as it did. -/
def realNearSpec : ChangeSpec := { name := "realNear", fn := fun _ => fun
  | [d1, d2] => { results := [.lit (.bool true)], args := [d1, d2] }
  | _ => none }
def realNearRow : OpenClaim := { program := "ytdignnmpfkgkoaagreat", sum := "87b143362bf556bdc0c54984955e18adf5f77c9ada2a27e643eb0cbafacc434f", func := "headroom/headroomlaw18.RealNear", spec := "realNear", unfollowed := true, recurses := true, plainKeys := false, apart := false }
def RealNearSaid : Prop := realNearRow.holds Tryz.pinned (OpenSpec.ofChange realNearSpec)

/-- ITS FALSE NEIGHBOUR: 'it returns false'. Refute it at one input. -/
def realNearWrong : ChangeSpec := { name := "realNear", fn := fun _ => fun
  | [d1, d2] => { results := [.lit (.bool false)], args := [d1, d2] }
  | _ => none }
def RealNearWrongFalsely : Prop := realNearRow.holds Tryz.pinned (OpenSpec.ofChange realNearWrong)

/- THE SECOND FORM. 'bulk': how many values and letters a reading holds, each counted each time it is reached (what is shared counts as often as it is met; a slice's spare places count too). A statement '..UptoSaid' is the law's where the arguments, and the package variables that the reading takes, are together of bulk at most 1048576: NARROWER than '..Said'. Prove '..Said' where nothing that the law and all that it calls make is longer than what came in: it says more and counts as full. Else prove '..UptoSaid'. A law counts once. -/
mutual
def uptoBulk {H : Type} : DataW H → Nat
  | .lit (.string bytes) => bytes.length + 1
  | .lit _ => 1
  | .nil => 1
  | .ptr d => uptoBulk d + 1
  | .slice elems spare => uptoBulkAll elems + uptoBulkAll spare + 1
  | .agg parts => uptoBulkAll parts + 1
  | .iface _ d => uptoBulk d + 1
  | .map entries => uptoBulkEntries entries + 1
  | .held _ => 1
def uptoBulkAll {H : Type} : List (DataW H) → Nat
  | [] => 0
  | d :: r => uptoBulk d + uptoBulkAll r
def uptoBulkEntries {H : Type} : List (Lit × DataW H) → Nat
  | [] => 0
  | x :: r => uptoBulkEntry x + uptoBulkEntries r
def uptoBulkEntry {H : Type} : Lit × DataW H → Nat
  | (.string bytes, d) => bytes.length + uptoBulk d + 1
  | (_, d) => uptoBulk d + 1
 end
def uptoSmall : (H : Type) → List (DataW H) → Bool := fun _ ds => decide (uptoBulkAll ds ≤ 1048576)
def OpenSpec.upto (s : _root_.Go.ChangeSpec) : _root_.Go.OpenSpec := { _root_.Go.OpenSpec.ofChange s with cond := some uptoSmall }

/-- 'headroomlaw18.RealBins', WHERE WHAT IT READS IS OF BULK AT MOST 1048576: true; the input reads as it did. -/
def realBinsUptoRow : OpenClaim := { program := "ytdignnmpfkgkoaagreat", sum := "87b143362bf556bdc0c54984955e18adf5f77c9ada2a27e643eb0cbafacc434f", func := "headroom/headroomlaw18.RealBins", spec := "realBins", unfollowed := true, recurses := true, plainKeys := false, apart := false, narrowed := true }
def RealBinsUptoSaid : Prop := realBinsUptoRow.holds Tryz.pinned (OpenSpec.upto realBinsSpec)

/-- 'headroomlaw18.RealUntangles', WHERE WHAT IT READS IS OF BULK AT MOST 1048576: true; the input reads as it did. -/
def realUntanglesUptoRow : OpenClaim := { program := "ytdignnmpfkgkoaagreat", sum := "87b143362bf556bdc0c54984955e18adf5f77c9ada2a27e643eb0cbafacc434f", func := "headroom/headroomlaw18.RealUntangles", spec := "realUntangles", unfollowed := true, recurses := true, plainKeys := false, apart := false, narrowed := true }
def RealUntanglesUptoSaid : Prop := realUntanglesUptoRow.holds Tryz.pinned (OpenSpec.upto realUntanglesSpec)

/-- 'headroomlaw18.RealEnds', WHERE WHAT IT READS IS OF BULK AT MOST 1048576: true; the input reads as it did. -/
def realEndsUptoRow : OpenClaim := { program := "ytdignnmpfkgkoaagreat", sum := "87b143362bf556bdc0c54984955e18adf5f77c9ada2a27e643eb0cbafacc434f", func := "headroom/headroomlaw18.RealEnds", spec := "realEnds", unfollowed := true, recurses := true, plainKeys := false, apart := false, narrowed := true }
def RealEndsUptoSaid : Prop := realEndsUptoRow.holds Tryz.pinned (OpenSpec.upto realEndsSpec)

/-- 'headroomlaw18.RealNear', WHERE WHAT IT READS IS OF BULK AT MOST 1048576: true; the input reads as it did. -/
def realNearUptoRow : OpenClaim := { program := "ytdignnmpfkgkoaagreat", sum := "87b143362bf556bdc0c54984955e18adf5f77c9ada2a27e643eb0cbafacc434f", func := "headroom/headroomlaw18.RealNear", spec := "realNear", unfollowed := true, recurses := true, plainKeys := false, apart := false, narrowed := true }
def RealNearUptoSaid : Prop := realNearUptoRow.holds Tryz.pinned (OpenSpec.upto realNearSpec)

end Rows
end Go.Proofs.YtdignnmpfkgkoaaGreat
