/-
  No cell of these rows narrows 'for every input' (looked for: loops, veiled, ifaces, maps, wideKeys, modest, calm, conditions, laid).
  DERIVED. THE GIVEN ROWS OF THIS SEAT. 3 by the template 'for every input the law returns true; each argument reads behind the call as it read before'; 0 by the template 'total and deterministic' (their statements: YtpcbcoegmdbdfaaTotals.lean).
  GIVEN WITH THE SEED: the statements are not yours to turn. If you find one false, say at which input.
  Laid BY PROGRAM, IN A SANDBOX (cutbox-rows.mjs): the forced cells as the released guide's own fill.sh prints them over the translation 18417cca5df78a28… (all of the seat's roots in one cut). By AI agents, Wed Nov 11 2026. No macro, syntax, notation, axiom, sorry.
-/
import Derived.Test.YtpcbcoegmdbdfaaChecked
import GoSem.Claim
import GoSem.ClaimJoined
import GoSem.ClaimMapViews
import Derived.JoinedTies
import Derived.KernelRfl
namespace Go.Proofs.Ytpcbcoegmdbdfaa
/- THE CELL 'sum', in the pinned program and in every row, IS THE sha256 OF THE DUMP (.gsa) THAT YtpcbcoegmdbdfaaProg.lean LOADS. Nothing in Lean hashes anything: it is a label: what it is worth is what the hold of that sum in a sandbox is worth. -/
noncomputable def Try.pinned : Pinned := { name := "ytpcbcoegmdbdfaa", sum := "18417cca5df78a28b5dcfb4fc913084b2a9ee9762c6a502c5fbe975d47e2cdb6", checked := Try.checked }
namespace Rows
def none {H : Type} : Left H := { results := [], args := [] }

/-- 'headroomlaw04.ArcTells': WHATEVER THE INPUT: true; the input reads as it did. -/
def arcTellsSpec : ChangeSpec := { name := "arcTells", fn := fun _ => fun
  | [d] => { results := [.lit (.bool true)], args := [d] }
  | _ => none }
def arcTellsRow : OpenClaim := { program := "ytpcbcoegmdbdfaa", sum := "18417cca5df78a28b5dcfb4fc913084b2a9ee9762c6a502c5fbe975d47e2cdb6", func := "headroom/headroomlaw04.ArcTells", spec := "arcTells", unfollowed := true, recurses := true, apart := false }
def ArcTellsSaid : Prop := arcTellsRow.holds Try.pinned (OpenSpec.ofChange arcTellsSpec)

/-- ITS FALSE NEIGHBOUR: 'it returns false'. Refute it at one input. -/
def arcTellsWrong : ChangeSpec := { name := "arcTells", fn := fun _ => fun
  | [d] => { results := [.lit (.bool false)], args := [d] }
  | _ => none }
def ArcTellsWrongFalsely : Prop := arcTellsRow.holds Try.pinned (OpenSpec.ofChange arcTellsWrong)

/-- 'headroomlaw04.ArcTerms': WHATEVER THE INPUT: true; the input reads as it did. -/
def arcTermsSpec : ChangeSpec := { name := "arcTerms", fn := fun _ => fun
  | [d] => { results := [.lit (.bool true)], args := [d] }
  | _ => none }
def arcTermsRow : OpenClaim := { program := "ytpcbcoegmdbdfaa", sum := "18417cca5df78a28b5dcfb4fc913084b2a9ee9762c6a502c5fbe975d47e2cdb6", func := "headroom/headroomlaw04.ArcTerms", spec := "arcTerms", unfollowed := true, recurses := true, apart := false }
def ArcTermsSaid : Prop := arcTermsRow.holds Try.pinned (OpenSpec.ofChange arcTermsSpec)

/-- ITS FALSE NEIGHBOUR: 'it returns false'. Refute it at one input. -/
def arcTermsWrong : ChangeSpec := { name := "arcTerms", fn := fun _ => fun
  | [d] => { results := [.lit (.bool false)], args := [d] }
  | _ => none }
def ArcTermsWrongFalsely : Prop := arcTermsRow.holds Try.pinned (OpenSpec.ofChange arcTermsWrong)

/-- 'headroomlaw04.ArcSplits': WHATEVER THE INPUT: true; the input reads as it did. -/
def arcSplitsSpec : ChangeSpec := { name := "arcSplits", fn := fun _ => fun
  | [d] => { results := [.lit (.bool true)], args := [d] }
  | _ => none }
def arcSplitsRow : OpenClaim := { program := "ytpcbcoegmdbdfaa", sum := "18417cca5df78a28b5dcfb4fc913084b2a9ee9762c6a502c5fbe975d47e2cdb6", func := "headroom/headroomlaw04.ArcSplits", spec := "arcSplits", unfollowed := true, recurses := true, apart := false }
def ArcSplitsSaid : Prop := arcSplitsRow.holds Try.pinned (OpenSpec.ofChange arcSplitsSpec)

/-- ITS FALSE NEIGHBOUR: 'it returns false'. Refute it at one input. -/
def arcSplitsWrong : ChangeSpec := { name := "arcSplits", fn := fun _ => fun
  | [d] => { results := [.lit (.bool false)], args := [d] }
  | _ => none }
def ArcSplitsWrongFalsely : Prop := arcSplitsRow.holds Try.pinned (OpenSpec.ofChange arcSplitsWrong)

/- THE SECOND FORM. 'bulk': how many values and letters a reading holds, each counted each time it is reached (what is shared counts as often as it is met; a slice's spare places count too). A statement '..UptoSaid' is the law's where the arguments, and the package variables that the reading takes, are together of bulk at most 1048576: NARROWER than '..Said'. Prove '..Said' where nothing that the law and all that it calls make is longer than what came in: it says more and counts as full. Else prove '..UptoSaid'. A law counts once. -/
mutual
def uptoBulk {H : Type} : DataW H → Nat
  | .lit (.string bytes) => bytes.length + 1
  | .lit _ => 1
  | .nil => 1
  | .ptr d => uptoBulk d + 1
  | .slice elems spare => uptoBulkAll elems + uptoBulkAll spare + 1
  | .agg parts => uptoBulkAll parts + 1
  | .iface _ d => uptoBulk d + 1
  | .map entries => uptoBulkEntries entries + 1
  | .held _ => 1
def uptoBulkAll {H : Type} : List (DataW H) → Nat
  | [] => 0
  | d :: r => uptoBulk d + uptoBulkAll r
def uptoBulkEntries {H : Type} : List (Lit × DataW H) → Nat
  | [] => 0
  | x :: r => uptoBulkEntry x + uptoBulkEntries r
def uptoBulkEntry {H : Type} : Lit × DataW H → Nat
  | (.string bytes, d) => bytes.length + uptoBulk d + 1
  | (_, d) => uptoBulk d + 1
 end
def uptoSmall : (H : Type) → List (DataW H) → Bool := fun _ ds => decide (uptoBulkAll ds ≤ 1048576)
def OpenSpec.upto (s : _root_.Go.ChangeSpec) : _root_.Go.OpenSpec := { _root_.Go.OpenSpec.ofChange s with cond := some uptoSmall }

/-- 'headroomlaw04.ArcTells', WHERE WHAT IT READS IS OF BULK AT MOST 1048576: true; the input reads as it did. -/
def arcTellsUptoRow : OpenClaim := { program := "ytpcbcoegmdbdfaa", sum := "18417cca5df78a28b5dcfb4fc913084b2a9ee9762c6a502c5fbe975d47e2cdb6", func := "headroom/headroomlaw04.ArcTells", spec := "arcTells", unfollowed := true, recurses := true, apart := false, narrowed := true }
def ArcTellsUptoSaid : Prop := arcTellsUptoRow.holds Try.pinned (OpenSpec.upto arcTellsSpec)

/-- 'headroomlaw04.ArcTerms', WHERE WHAT IT READS IS OF BULK AT MOST 1048576: true; the input reads as it did. -/
def arcTermsUptoRow : OpenClaim := { program := "ytpcbcoegmdbdfaa", sum := "18417cca5df78a28b5dcfb4fc913084b2a9ee9762c6a502c5fbe975d47e2cdb6", func := "headroom/headroomlaw04.ArcTerms", spec := "arcTerms", unfollowed := true, recurses := true, apart := false, narrowed := true }
def ArcTermsUptoSaid : Prop := arcTermsUptoRow.holds Try.pinned (OpenSpec.upto arcTermsSpec)

/-- 'headroomlaw04.ArcSplits', WHERE WHAT IT READS IS OF BULK AT MOST 1048576: true; the input reads as it did. -/
def arcSplitsUptoRow : OpenClaim := { program := "ytpcbcoegmdbdfaa", sum := "18417cca5df78a28b5dcfb4fc913084b2a9ee9762c6a502c5fbe975d47e2cdb6", func := "headroom/headroomlaw04.ArcSplits", spec := "arcSplits", unfollowed := true, recurses := true, apart := false, narrowed := true }
def ArcSplitsUptoSaid : Prop := arcSplitsUptoRow.holds Try.pinned (OpenSpec.upto arcSplitsSpec)

end Rows
end Go.Proofs.Ytpcbcoegmdbdfaa
