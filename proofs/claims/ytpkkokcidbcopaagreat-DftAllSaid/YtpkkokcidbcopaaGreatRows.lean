/-
  No cell of these rows narrows 'for every input' (looked for: loops, veiled, ifaces, maps, wideKeys, modest, calm, conditions, laid).
  DERIVED. THE GIVEN ROWS OF THIS SEAT. 2 by the template 'for every input the law returns true; each argument reads behind the call as it read before'; 0 by the template 'total and deterministic' (their statements: YtpkkokcidbcopaaGreatTotals.lean).
  GIVEN WITH THE SEED: the statements are not yours to turn. If you find one false, say at which input.
  Laid BY PROGRAM, IN A SANDBOX (cutbox-rows.mjs): the forced cells as the released guide's own fill.sh prints them over the translation fe6fc3cca24f6b0a… (all of the seat's roots in one cut). By AI agents, Wed Nov 11 2026. No macro, syntax, notation, axiom, sorry.
-/
import Derived.Test.YtpkkokcidbcopaaGreatChecked
import GoSem.Claim
import GoSem.ClaimJoined
import GoSem.ClaimMapViews
import Derived.JoinedTies
import Derived.KernelRfl
namespace Go.Proofs.YtpkkokcidbcopaaGreat
/- THE CELL 'sum', in the pinned program and in every row, IS THE sha256 OF THE DUMP (.gsa) THAT YtpkkokcidbcopaaGreatProg.lean LOADS. Nothing in Lean hashes anything: it is a label: what it is worth is what the hold of that sum in a sandbox is worth. -/
noncomputable def Tryz.pinned : Pinned := { name := "ytpkkokcidbcopaagreat", sum := "fe6fc3cca24f6b0a18818269f9e6f43b3a52ef4fea17b3b3aa7c3725b6e39bc8", checked := Tryz.checked }
namespace Rows
def none {H : Type} : Left H := { results := [], args := [] }

/-- 'headroomlaw16.DftBins': WHATEVER THE INPUT: true; the input reads as it did. -/
def dftBinsSpec : ChangeSpec := { name := "dftBins", fn := fun _ => fun
  | [d1, d2, d3] => { results := [.lit (.bool true)], args := [d1, d2, d3] }
  | _ => none }
def dftBinsRow : OpenClaim := { program := "ytpkkokcidbcopaagreat", sum := "fe6fc3cca24f6b0a18818269f9e6f43b3a52ef4fea17b3b3aa7c3725b6e39bc8", func := "headroom/headroomlaw16.DftBins", spec := "dftBins", unfollowed := true, recurses := true, apart := false }
def DftBinsSaid : Prop := dftBinsRow.holds Tryz.pinned (OpenSpec.ofChange dftBinsSpec)

/-- ITS FALSE NEIGHBOUR: 'it returns false'. Refute it at one input. -/
def dftBinsWrong : ChangeSpec := { name := "dftBins", fn := fun _ => fun
  | [d1, d2, d3] => { results := [.lit (.bool false)], args := [d1, d2, d3] }
  | _ => none }
def DftBinsWrongFalsely : Prop := dftBinsRow.holds Tryz.pinned (OpenSpec.ofChange dftBinsWrong)

/-- 'headroomlaw16.DftAll': WHATEVER THE INPUT: true; the input reads as it did. -/
def dftAllSpec : ChangeSpec := { name := "dftAll", fn := fun _ => fun
  | [d1, d2] => { results := [.lit (.bool true)], args := [d1, d2] }
  | _ => none }
def dftAllRow : OpenClaim := { program := "ytpkkokcidbcopaagreat", sum := "fe6fc3cca24f6b0a18818269f9e6f43b3a52ef4fea17b3b3aa7c3725b6e39bc8", func := "headroom/headroomlaw16.DftAll", spec := "dftAll", unfollowed := true, recurses := true, apart := false }
def DftAllSaid : Prop := dftAllRow.holds Tryz.pinned (OpenSpec.ofChange dftAllSpec)

/-- ITS FALSE NEIGHBOUR: 'it returns false'. Refute it at one input. -/
def dftAllWrong : ChangeSpec := { name := "dftAll", fn := fun _ => fun
  | [d1, d2] => { results := [.lit (.bool false)], args := [d1, d2] }
  | _ => none }
def DftAllWrongFalsely : Prop := dftAllRow.holds Tryz.pinned (OpenSpec.ofChange dftAllWrong)

/- THE SECOND FORM. 'bulk': how many values and letters a reading holds, each counted each time it is reached (what is shared counts as often as it is met; a slice's spare places count too). A statement '..UptoSaid' is the law's where the arguments, and the package variables that the reading takes, are together of bulk at most 1048576: NARROWER than '..Said'. Prove '..Said' where nothing that the law and all that it calls make is longer than what came in: it says more and counts as full. Else prove '..UptoSaid'. A law counts once. -/
mutual
def uptoBulk {H : Type} : DataW H → Nat
  | .lit (.string bytes) => bytes.length + 1
  | .lit _ => 1
  | .nil => 1
  | .ptr d => uptoBulk d + 1
  | .slice elems spare => uptoBulkAll elems + uptoBulkAll spare + 1
  | .agg parts => uptoBulkAll parts + 1
  | .iface _ d => uptoBulk d + 1
  | .map entries => uptoBulkEntries entries + 1
  | .held _ => 1
def uptoBulkAll {H : Type} : List (DataW H) → Nat
  | [] => 0
  | d :: r => uptoBulk d + uptoBulkAll r
def uptoBulkEntries {H : Type} : List (Lit × DataW H) → Nat
  | [] => 0
  | x :: r => uptoBulkEntry x + uptoBulkEntries r
def uptoBulkEntry {H : Type} : Lit × DataW H → Nat
  | (.string bytes, d) => bytes.length + uptoBulk d + 1
  | (_, d) => uptoBulk d + 1
 end
def uptoSmall : (H : Type) → List (DataW H) → Bool := fun _ ds => decide (uptoBulkAll ds ≤ 1048576)
def OpenSpec.upto (s : _root_.Go.ChangeSpec) : _root_.Go.OpenSpec := { _root_.Go.OpenSpec.ofChange s with cond := some uptoSmall }

/-- 'headroomlaw16.DftBins', WHERE WHAT IT READS IS OF BULK AT MOST 1048576: true; the input reads as it did. -/
def dftBinsUptoRow : OpenClaim := { program := "ytpkkokcidbcopaagreat", sum := "fe6fc3cca24f6b0a18818269f9e6f43b3a52ef4fea17b3b3aa7c3725b6e39bc8", func := "headroom/headroomlaw16.DftBins", spec := "dftBins", unfollowed := true, recurses := true, apart := false, narrowed := true }
def DftBinsUptoSaid : Prop := dftBinsUptoRow.holds Tryz.pinned (OpenSpec.upto dftBinsSpec)

/-- 'headroomlaw16.DftAll', WHERE WHAT IT READS IS OF BULK AT MOST 1048576: true; the input reads as it did. -/
def dftAllUptoRow : OpenClaim := { program := "ytpkkokcidbcopaagreat", sum := "fe6fc3cca24f6b0a18818269f9e6f43b3a52ef4fea17b3b3aa7c3725b6e39bc8", func := "headroom/headroomlaw16.DftAll", spec := "dftAll", unfollowed := true, recurses := true, apart := false, narrowed := true }
def DftAllUptoSaid : Prop := dftAllUptoRow.holds Tryz.pinned (OpenSpec.upto dftAllSpec)

end Rows
end Go.Proofs.YtpkkokcidbcopaaGreat
