/-
  No cell of these rows narrows 'for every input' (looked for: loops, veiled, ifaces, maps, wideKeys, modest, calm, conditions, laid).
  DERIVED. THE GIVEN ROWS OF THIS SEAT. 4 by the template 'for every input the law returns true; each argument reads behind the call as it read before'; 0 by the template 'total and deterministic' (their statements: YtkbfniogannlhaaTotals.lean).
  GIVEN WITH THE SEED: the statements are not yours to turn. If you find one false, say at which input.
  Laid BY PROGRAM, IN A SANDBOX (cutbox-rows.mjs): the forced cells as the released guide's own fill.sh prints them over the translation 314cbbffb3219d07… (all of the seat's roots in one cut). By AI agents, Wed Nov 11 2026. No macro, syntax, notation, axiom, sorry.
-/
import Derived.Test.YtkbfniogannlhaaChecked
import GoSem.Claim
import GoSem.ClaimJoined
import GoSem.ClaimMapViews
import Derived.JoinedTies
import Derived.KernelRfl
namespace Go.Proofs.Ytkbfniogannlhaa
/- THE CELL 'sum', in the pinned program and in every row, IS THE sha256 OF THE DUMP (.gsa) THAT YtkbfniogannlhaaProg.lean LOADS. Nothing in Lean hashes anything: it is a label: what it is worth is what the hold of that sum in a sandbox is worth. -/
noncomputable def Try.pinned : Pinned := { name := "ytkbfniogannlhaa", sum := "314cbbffb3219d07c5f29ed26eeac23e121d11517a91cc8a3e35abfb453de3f4", checked := Try.checked }
namespace Rows
def none {H : Type} : Left H := { results := [], args := [] }

/-- 'headroomlaw10.TwoPairs': WHATEVER THE INPUT: true; the input reads as it did. -/
def twoPairsSpec : ChangeSpec := { name := "twoPairs", fn := fun _ => fun
  | [d1, d2, d3, d4, d5, d6] => { results := [.lit (.bool true)], args := [d1, d2, d3, d4, d5, d6] }
  | _ => none }
def twoPairsRow : OpenClaim := { program := "ytkbfniogannlhaa", sum := "314cbbffb3219d07c5f29ed26eeac23e121d11517a91cc8a3e35abfb453de3f4", func := "headroom/headroomlaw10.TwoPairs", spec := "twoPairs", unfollowed := true, recurses := true, apart := false }
def TwoPairsSaid : Prop := twoPairsRow.holds Try.pinned (OpenSpec.ofChange twoPairsSpec)

/-- ITS FALSE NEIGHBOUR: 'it returns false'. Refute it at one input. -/
def twoPairsWrong : ChangeSpec := { name := "twoPairs", fn := fun _ => fun
  | [d1, d2, d3, d4, d5, d6] => { results := [.lit (.bool false)], args := [d1, d2, d3, d4, d5, d6] }
  | _ => none }
def TwoPairsWrongFalsely : Prop := twoPairsRow.holds Try.pinned (OpenSpec.ofChange twoPairsWrong)

/-- 'headroomlaw10.TwoPasses': WHATEVER THE INPUT: true; the input reads as it did. -/
def twoPassesSpec : ChangeSpec := { name := "twoPasses", fn := fun _ => fun
  | [d1, d2, d3, d4, d5, d6, d7] => { results := [.lit (.bool true)], args := [d1, d2, d3, d4, d5, d6, d7] }
  | _ => none }
def twoPassesRow : OpenClaim := { program := "ytkbfniogannlhaa", sum := "314cbbffb3219d07c5f29ed26eeac23e121d11517a91cc8a3e35abfb453de3f4", func := "headroom/headroomlaw10.TwoPasses", spec := "twoPasses", unfollowed := true, recurses := true, apart := false }
def TwoPassesSaid : Prop := twoPassesRow.holds Try.pinned (OpenSpec.ofChange twoPassesSpec)

/-- ITS FALSE NEIGHBOUR: 'it returns false'. Refute it at one input. -/
def twoPassesWrong : ChangeSpec := { name := "twoPasses", fn := fun _ => fun
  | [d1, d2, d3, d4, d5, d6, d7] => { results := [.lit (.bool false)], args := [d1, d2, d3, d4, d5, d6, d7] }
  | _ => none }
def TwoPassesWrongFalsely : Prop := twoPassesRow.holds Try.pinned (OpenSpec.ofChange twoPassesWrong)

/-- 'headroomlaw10.TwoSums': WHATEVER THE INPUT: true; the input reads as it did. -/
def twoSumsSpec : ChangeSpec := { name := "twoSums", fn := fun _ => fun
  | [d1, d2, d3, d4, d5, d6] => { results := [.lit (.bool true)], args := [d1, d2, d3, d4, d5, d6] }
  | _ => none }
def twoSumsRow : OpenClaim := { program := "ytkbfniogannlhaa", sum := "314cbbffb3219d07c5f29ed26eeac23e121d11517a91cc8a3e35abfb453de3f4", func := "headroom/headroomlaw10.TwoSums", spec := "twoSums", unfollowed := true, recurses := true, apart := false }
def TwoSumsSaid : Prop := twoSumsRow.holds Try.pinned (OpenSpec.ofChange twoSumsSpec)

/-- ITS FALSE NEIGHBOUR: 'it returns false'. Refute it at one input. -/
def twoSumsWrong : ChangeSpec := { name := "twoSums", fn := fun _ => fun
  | [d1, d2, d3, d4, d5, d6] => { results := [.lit (.bool false)], args := [d1, d2, d3, d4, d5, d6] }
  | _ => none }
def TwoSumsWrongFalsely : Prop := twoSumsRow.holds Try.pinned (OpenSpec.ofChange twoSumsWrong)

/-- 'headroomlaw10.TwoGrows': WHATEVER THE INPUT: true; the input reads as it did. -/
def twoGrowsSpec : ChangeSpec := { name := "twoGrows", fn := fun _ => fun
  | [d1, d2, d3, d4, d5, d6, d7] => { results := [.lit (.bool true)], args := [d1, d2, d3, d4, d5, d6, d7] }
  | _ => none }
def twoGrowsRow : OpenClaim := { program := "ytkbfniogannlhaa", sum := "314cbbffb3219d07c5f29ed26eeac23e121d11517a91cc8a3e35abfb453de3f4", func := "headroom/headroomlaw10.TwoGrows", spec := "twoGrows", unfollowed := true, recurses := true, apart := false }
def TwoGrowsSaid : Prop := twoGrowsRow.holds Try.pinned (OpenSpec.ofChange twoGrowsSpec)

/-- ITS FALSE NEIGHBOUR: 'it returns false'. Refute it at one input. -/
def twoGrowsWrong : ChangeSpec := { name := "twoGrows", fn := fun _ => fun
  | [d1, d2, d3, d4, d5, d6, d7] => { results := [.lit (.bool false)], args := [d1, d2, d3, d4, d5, d6, d7] }
  | _ => none }
def TwoGrowsWrongFalsely : Prop := twoGrowsRow.holds Try.pinned (OpenSpec.ofChange twoGrowsWrong)

/- THE SECOND FORM. 'bulk': how many values and letters a reading holds, each counted each time it is reached (what is shared counts as often as it is met; a slice's spare places count too). A statement '..UptoSaid' is the law's where the arguments, and the package variables that the reading takes, are together of bulk at most 1048576: NARROWER than '..Said'. Prove '..Said' where nothing that the law and all that it calls make is longer than what came in: it says more and counts as full. Else prove '..UptoSaid'. A law counts once. -/
mutual
def uptoBulk {H : Type} : DataW H → Nat
  | .lit (.string bytes) => bytes.length + 1
  | .lit _ => 1
  | .nil => 1
  | .ptr d => uptoBulk d + 1
  | .slice elems spare => uptoBulkAll elems + uptoBulkAll spare + 1
  | .agg parts => uptoBulkAll parts + 1
  | .iface _ d => uptoBulk d + 1
  | .map entries => uptoBulkEntries entries + 1
  | .held _ => 1
def uptoBulkAll {H : Type} : List (DataW H) → Nat
  | [] => 0
  | d :: r => uptoBulk d + uptoBulkAll r
def uptoBulkEntries {H : Type} : List (Lit × DataW H) → Nat
  | [] => 0
  | x :: r => uptoBulkEntry x + uptoBulkEntries r
def uptoBulkEntry {H : Type} : Lit × DataW H → Nat
  | (.string bytes, d) => bytes.length + uptoBulk d + 1
  | (_, d) => uptoBulk d + 1
 end
def uptoSmall : (H : Type) → List (DataW H) → Bool := fun _ ds => decide (uptoBulkAll ds ≤ 1048576)
def OpenSpec.upto (s : _root_.Go.ChangeSpec) : _root_.Go.OpenSpec := { _root_.Go.OpenSpec.ofChange s with cond := some uptoSmall }

/-- 'headroomlaw10.TwoPairs', WHERE WHAT IT READS IS OF BULK AT MOST 1048576: true; the input reads as it did. -/
def twoPairsUptoRow : OpenClaim := { program := "ytkbfniogannlhaa", sum := "314cbbffb3219d07c5f29ed26eeac23e121d11517a91cc8a3e35abfb453de3f4", func := "headroom/headroomlaw10.TwoPairs", spec := "twoPairs", unfollowed := true, recurses := true, apart := false, narrowed := true }
def TwoPairsUptoSaid : Prop := twoPairsUptoRow.holds Try.pinned (OpenSpec.upto twoPairsSpec)

/-- 'headroomlaw10.TwoPasses', WHERE WHAT IT READS IS OF BULK AT MOST 1048576: true; the input reads as it did. -/
def twoPassesUptoRow : OpenClaim := { program := "ytkbfniogannlhaa", sum := "314cbbffb3219d07c5f29ed26eeac23e121d11517a91cc8a3e35abfb453de3f4", func := "headroom/headroomlaw10.TwoPasses", spec := "twoPasses", unfollowed := true, recurses := true, apart := false, narrowed := true }
def TwoPassesUptoSaid : Prop := twoPassesUptoRow.holds Try.pinned (OpenSpec.upto twoPassesSpec)

/-- 'headroomlaw10.TwoSums', WHERE WHAT IT READS IS OF BULK AT MOST 1048576: true; the input reads as it did. -/
def twoSumsUptoRow : OpenClaim := { program := "ytkbfniogannlhaa", sum := "314cbbffb3219d07c5f29ed26eeac23e121d11517a91cc8a3e35abfb453de3f4", func := "headroom/headroomlaw10.TwoSums", spec := "twoSums", unfollowed := true, recurses := true, apart := false, narrowed := true }
def TwoSumsUptoSaid : Prop := twoSumsUptoRow.holds Try.pinned (OpenSpec.upto twoSumsSpec)

/-- 'headroomlaw10.TwoGrows', WHERE WHAT IT READS IS OF BULK AT MOST 1048576: true; the input reads as it did. -/
def twoGrowsUptoRow : OpenClaim := { program := "ytkbfniogannlhaa", sum := "314cbbffb3219d07c5f29ed26eeac23e121d11517a91cc8a3e35abfb453de3f4", func := "headroom/headroomlaw10.TwoGrows", spec := "twoGrows", unfollowed := true, recurses := true, apart := false, narrowed := true }
def TwoGrowsUptoSaid : Prop := twoGrowsUptoRow.holds Try.pinned (OpenSpec.upto twoGrowsSpec)

end Rows
end Go.Proofs.Ytkbfniogannlhaa
