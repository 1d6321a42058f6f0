/-
  No cell of these rows narrows 'for every input' (looked for: loops, veiled, ifaces, maps, wideKeys, modest, calm, conditions, laid).
  DERIVED. THE GIVEN ROWS OF THIS SEAT. 7 by the template 'for every input the law returns true; each argument reads behind the call as it read before'; 0 by the template 'total and deterministic' (their statements: YtmhcbphkkcmecaaTotals.lean).
  GIVEN WITH THE SEED: the statements are not yours to turn. If you find one false, say at which input.
  Laid BY PROGRAM, IN A SANDBOX (cutbox-rows.mjs): the forced cells as the released guide's own fill.sh prints them over the translation bcb624b6022af925… (all of the seat's roots in one cut). By AI agents, Wed Nov 11 2026. No macro, syntax, notation, axiom, sorry.
-/
import Derived.Test.YtmhcbphkkcmecaaChecked
import GoSem.Claim
import GoSem.ClaimJoined
import GoSem.ClaimMapViews
import Derived.JoinedTies
import Derived.KernelRfl
namespace Go.Proofs.Ytmhcbphkkcmecaa
/- THE CELL 'sum', in the pinned program and in every row, IS THE sha256 OF THE DUMP (.gsa) THAT YtmhcbphkkcmecaaProg.lean LOADS. Nothing in Lean hashes anything: it is a label: what it is worth is what the hold of that sum in a sandbox is worth. -/
noncomputable def Try.pinned : Pinned := { name := "ytmhcbphkkcmecaa", sum := "bcb624b6022af92577dfa67bae04a79a25cb97a0715a1de20b86644741bb1883", checked := Try.checked }
namespace Rows
def none {H : Type} : Left H := { results := [], args := [] }

/-- 'headroomlaw11.FourQuads': WHATEVER THE INPUT: true; the input reads as it did. -/
def fourQuadsSpec : ChangeSpec := { name := "fourQuads", fn := fun _ => fun
  | [d1, d2, d3, d4, d5, d6] => { results := [.lit (.bool true)], args := [d1, d2, d3, d4, d5, d6] }
  | _ => none }
def fourQuadsRow : OpenClaim := { program := "ytmhcbphkkcmecaa", sum := "bcb624b6022af92577dfa67bae04a79a25cb97a0715a1de20b86644741bb1883", func := "headroom/headroomlaw11.FourQuads", spec := "fourQuads", unfollowed := true, recurses := true, apart := false }
def FourQuadsSaid : Prop := fourQuadsRow.holds Try.pinned (OpenSpec.ofChange fourQuadsSpec)

/-- ITS FALSE NEIGHBOUR: 'it returns false'. Refute it at one input. -/
def fourQuadsWrong : ChangeSpec := { name := "fourQuads", fn := fun _ => fun
  | [d1, d2, d3, d4, d5, d6] => { results := [.lit (.bool false)], args := [d1, d2, d3, d4, d5, d6] }
  | _ => none }
def FourQuadsWrongFalsely : Prop := fourQuadsRow.holds Try.pinned (OpenSpec.ofChange fourQuadsWrong)

/-- 'headroomlaw11.FourPasses': WHATEVER THE INPUT: true; the input reads as it did. -/
def fourPassesSpec : ChangeSpec := { name := "fourPasses", fn := fun _ => fun
  | [d1, d2, d3, d4, d5, d6, d7] => { results := [.lit (.bool true)], args := [d1, d2, d3, d4, d5, d6, d7] }
  | _ => none }
def fourPassesRow : OpenClaim := { program := "ytmhcbphkkcmecaa", sum := "bcb624b6022af92577dfa67bae04a79a25cb97a0715a1de20b86644741bb1883", func := "headroom/headroomlaw11.FourPasses", spec := "fourPasses", unfollowed := true, recurses := true, apart := false }
def FourPassesSaid : Prop := fourPassesRow.holds Try.pinned (OpenSpec.ofChange fourPassesSpec)

/-- ITS FALSE NEIGHBOUR: 'it returns false'. Refute it at one input. -/
def fourPassesWrong : ChangeSpec := { name := "fourPasses", fn := fun _ => fun
  | [d1, d2, d3, d4, d5, d6, d7] => { results := [.lit (.bool false)], args := [d1, d2, d3, d4, d5, d6, d7] }
  | _ => none }
def FourPassesWrongFalsely : Prop := fourPassesRow.holds Try.pinned (OpenSpec.ofChange fourPassesWrong)

/-- 'headroomlaw11.FourSums': WHATEVER THE INPUT: true; the input reads as it did. -/
def fourSumsSpec : ChangeSpec := { name := "fourSums", fn := fun _ => fun
  | [d1, d2, d3, d4, d5, d6] => { results := [.lit (.bool true)], args := [d1, d2, d3, d4, d5, d6] }
  | _ => none }
def fourSumsRow : OpenClaim := { program := "ytmhcbphkkcmecaa", sum := "bcb624b6022af92577dfa67bae04a79a25cb97a0715a1de20b86644741bb1883", func := "headroom/headroomlaw11.FourSums", spec := "fourSums", unfollowed := true, recurses := true, apart := false }
def FourSumsSaid : Prop := fourSumsRow.holds Try.pinned (OpenSpec.ofChange fourSumsSpec)

/-- ITS FALSE NEIGHBOUR: 'it returns false'. Refute it at one input. -/
def fourSumsWrong : ChangeSpec := { name := "fourSums", fn := fun _ => fun
  | [d1, d2, d3, d4, d5, d6] => { results := [.lit (.bool false)], args := [d1, d2, d3, d4, d5, d6] }
  | _ => none }
def FourSumsWrongFalsely : Prop := fourSumsRow.holds Try.pinned (OpenSpec.ofChange fourSumsWrong)

/-- 'headroomlaw11.FourTwos': WHATEVER THE INPUT: true; the input reads as it did. -/
def fourTwosSpec : ChangeSpec := { name := "fourTwos", fn := fun _ => fun
  | [d1, d2] => { results := [.lit (.bool true)], args := [d1, d2] }
  | _ => none }
def fourTwosRow : OpenClaim := { program := "ytmhcbphkkcmecaa", sum := "bcb624b6022af92577dfa67bae04a79a25cb97a0715a1de20b86644741bb1883", func := "headroom/headroomlaw11.FourTwos", spec := "fourTwos", unfollowed := true, recurses := true, apart := false }
def FourTwosSaid : Prop := fourTwosRow.holds Try.pinned (OpenSpec.ofChange fourTwosSpec)

/-- ITS FALSE NEIGHBOUR: 'it returns false'. Refute it at one input. -/
def fourTwosWrong : ChangeSpec := { name := "fourTwos", fn := fun _ => fun
  | [d1, d2] => { results := [.lit (.bool false)], args := [d1, d2] }
  | _ => none }
def FourTwosWrongFalsely : Prop := fourTwosRow.holds Try.pinned (OpenSpec.ofChange fourTwosWrong)

/-- 'headroomlaw12.SplitJoins': WHATEVER THE INPUT: true; the input reads as it did. -/
def splitJoinsSpec : ChangeSpec := { name := "splitJoins", fn := fun _ => fun
  | [d1, d2, d3, d4, d5, d6, d7, d8, d9] => { results := [.lit (.bool true)], args := [d1, d2, d3, d4, d5, d6, d7, d8, d9] }
  | _ => none }
def splitJoinsRow : OpenClaim := { program := "ytmhcbphkkcmecaa", sum := "bcb624b6022af92577dfa67bae04a79a25cb97a0715a1de20b86644741bb1883", func := "headroom/headroomlaw12.SplitJoins", spec := "splitJoins", unfollowed := true, recurses := true, apart := false }
def SplitJoinsSaid : Prop := splitJoinsRow.holds Try.pinned (OpenSpec.ofChange splitJoinsSpec)

/-- ITS FALSE NEIGHBOUR: 'it returns false'. Refute it at one input. -/
def splitJoinsWrong : ChangeSpec := { name := "splitJoins", fn := fun _ => fun
  | [d1, d2, d3, d4, d5, d6, d7, d8, d9] => { results := [.lit (.bool false)], args := [d1, d2, d3, d4, d5, d6, d7, d8, d9] }
  | _ => none }
def SplitJoinsWrongFalsely : Prop := splitJoinsRow.holds Try.pinned (OpenSpec.ofChange splitJoinsWrong)

/-- 'headroomlaw12.SplitSame': WHATEVER THE INPUT: true; the input reads as it did. -/
def splitSameSpec : ChangeSpec := { name := "splitSame", fn := fun _ => fun
  | [d1, d2, d3, d4, d5] => { results := [.lit (.bool true)], args := [d1, d2, d3, d4, d5] }
  | _ => none }
def splitSameRow : OpenClaim := { program := "ytmhcbphkkcmecaa", sum := "bcb624b6022af92577dfa67bae04a79a25cb97a0715a1de20b86644741bb1883", func := "headroom/headroomlaw12.SplitSame", spec := "splitSame", unfollowed := true, recurses := true, apart := false }
def SplitSameSaid : Prop := splitSameRow.holds Try.pinned (OpenSpec.ofChange splitSameSpec)

/-- ITS FALSE NEIGHBOUR: 'it returns false'. Refute it at one input. -/
def splitSameWrong : ChangeSpec := { name := "splitSame", fn := fun _ => fun
  | [d1, d2, d3, d4, d5] => { results := [.lit (.bool false)], args := [d1, d2, d3, d4, d5] }
  | _ => none }
def SplitSameWrongFalsely : Prop := splitSameRow.holds Try.pinned (OpenSpec.ofChange splitSameWrong)

/-- 'headroomlaw12.SplitWithin': WHATEVER THE INPUT: true; the input reads as it did. -/
def splitWithinSpec : ChangeSpec := { name := "splitWithin", fn := fun _ => fun
  | [d1, d2, d3, d4] => { results := [.lit (.bool true)], args := [d1, d2, d3, d4] }
  | _ => none }
def splitWithinRow : OpenClaim := { program := "ytmhcbphkkcmecaa", sum := "bcb624b6022af92577dfa67bae04a79a25cb97a0715a1de20b86644741bb1883", func := "headroom/headroomlaw12.SplitWithin", spec := "splitWithin", unfollowed := true, recurses := true, apart := false }
def SplitWithinSaid : Prop := splitWithinRow.holds Try.pinned (OpenSpec.ofChange splitWithinSpec)

/-- ITS FALSE NEIGHBOUR: 'it returns false'. Refute it at one input. -/
def splitWithinWrong : ChangeSpec := { name := "splitWithin", fn := fun _ => fun
  | [d1, d2, d3, d4] => { results := [.lit (.bool false)], args := [d1, d2, d3, d4] }
  | _ => none }
def SplitWithinWrongFalsely : Prop := splitWithinRow.holds Try.pinned (OpenSpec.ofChange splitWithinWrong)

/- THE SECOND FORM. 'bulk': how many values and letters a reading holds, each counted each time it is reached (what is shared counts as often as it is met; a slice's spare places count too). A statement '..UptoSaid' is the law's where the arguments, and the package variables that the reading takes, are together of bulk at most 1048576: NARROWER than '..Said'. Prove '..Said' where nothing that the law and all that it calls make is longer than what came in: it says more and counts as full. Else prove '..UptoSaid'. A law counts once. -/
mutual
def uptoBulk {H : Type} : DataW H → Nat
  | .lit (.string bytes) => bytes.length + 1
  | .lit _ => 1
  | .nil => 1
  | .ptr d => uptoBulk d + 1
  | .slice elems spare => uptoBulkAll elems + uptoBulkAll spare + 1
  | .agg parts => uptoBulkAll parts + 1
  | .iface _ d => uptoBulk d + 1
  | .map entries => uptoBulkEntries entries + 1
  | .held _ => 1
def uptoBulkAll {H : Type} : List (DataW H) → Nat
  | [] => 0
  | d :: r => uptoBulk d + uptoBulkAll r
def uptoBulkEntries {H : Type} : List (Lit × DataW H) → Nat
  | [] => 0
  | x :: r => uptoBulkEntry x + uptoBulkEntries r
def uptoBulkEntry {H : Type} : Lit × DataW H → Nat
  | (.string bytes, d) => bytes.length + uptoBulk d + 1
  | (_, d) => uptoBulk d + 1
 end
def uptoSmall : (H : Type) → List (DataW H) → Bool := fun _ ds => decide (uptoBulkAll ds ≤ 1048576)
def OpenSpec.upto (s : _root_.Go.ChangeSpec) : _root_.Go.OpenSpec := { _root_.Go.OpenSpec.ofChange s with cond := some uptoSmall }

/-- 'headroomlaw11.FourQuads', WHERE WHAT IT READS IS OF BULK AT MOST 1048576: true; the input reads as it did. -/
def fourQuadsUptoRow : OpenClaim := { program := "ytmhcbphkkcmecaa", sum := "bcb624b6022af92577dfa67bae04a79a25cb97a0715a1de20b86644741bb1883", func := "headroom/headroomlaw11.FourQuads", spec := "fourQuads", unfollowed := true, recurses := true, apart := false, narrowed := true }
def FourQuadsUptoSaid : Prop := fourQuadsUptoRow.holds Try.pinned (OpenSpec.upto fourQuadsSpec)

/-- 'headroomlaw11.FourPasses', WHERE WHAT IT READS IS OF BULK AT MOST 1048576: true; the input reads as it did. -/
def fourPassesUptoRow : OpenClaim := { program := "ytmhcbphkkcmecaa", sum := "bcb624b6022af92577dfa67bae04a79a25cb97a0715a1de20b86644741bb1883", func := "headroom/headroomlaw11.FourPasses", spec := "fourPasses", unfollowed := true, recurses := true, apart := false, narrowed := true }
def FourPassesUptoSaid : Prop := fourPassesUptoRow.holds Try.pinned (OpenSpec.upto fourPassesSpec)

/-- 'headroomlaw11.FourSums', WHERE WHAT IT READS IS OF BULK AT MOST 1048576: true; the input reads as it did. -/
def fourSumsUptoRow : OpenClaim := { program := "ytmhcbphkkcmecaa", sum := "bcb624b6022af92577dfa67bae04a79a25cb97a0715a1de20b86644741bb1883", func := "headroom/headroomlaw11.FourSums", spec := "fourSums", unfollowed := true, recurses := true, apart := false, narrowed := true }
def FourSumsUptoSaid : Prop := fourSumsUptoRow.holds Try.pinned (OpenSpec.upto fourSumsSpec)

/-- 'headroomlaw11.FourTwos', WHERE WHAT IT READS IS OF BULK AT MOST 1048576: true; the input reads as it did. -/
def fourTwosUptoRow : OpenClaim := { program := "ytmhcbphkkcmecaa", sum := "bcb624b6022af92577dfa67bae04a79a25cb97a0715a1de20b86644741bb1883", func := "headroom/headroomlaw11.FourTwos", spec := "fourTwos", unfollowed := true, recurses := true, apart := false, narrowed := true }
def FourTwosUptoSaid : Prop := fourTwosUptoRow.holds Try.pinned (OpenSpec.upto fourTwosSpec)

/-- 'headroomlaw12.SplitJoins', WHERE WHAT IT READS IS OF BULK AT MOST 1048576: true; the input reads as it did. -/
def splitJoinsUptoRow : OpenClaim := { program := "ytmhcbphkkcmecaa", sum := "bcb624b6022af92577dfa67bae04a79a25cb97a0715a1de20b86644741bb1883", func := "headroom/headroomlaw12.SplitJoins", spec := "splitJoins", unfollowed := true, recurses := true, apart := false, narrowed := true }
def SplitJoinsUptoSaid : Prop := splitJoinsUptoRow.holds Try.pinned (OpenSpec.upto splitJoinsSpec)

/-- 'headroomlaw12.SplitSame', WHERE WHAT IT READS IS OF BULK AT MOST 1048576: true; the input reads as it did. -/
def splitSameUptoRow : OpenClaim := { program := "ytmhcbphkkcmecaa", sum := "bcb624b6022af92577dfa67bae04a79a25cb97a0715a1de20b86644741bb1883", func := "headroom/headroomlaw12.SplitSame", spec := "splitSame", unfollowed := true, recurses := true, apart := false, narrowed := true }
def SplitSameUptoSaid : Prop := splitSameUptoRow.holds Try.pinned (OpenSpec.upto splitSameSpec)

/-- 'headroomlaw12.SplitWithin', WHERE WHAT IT READS IS OF BULK AT MOST 1048576: true; the input reads as it did. -/
def splitWithinUptoRow : OpenClaim := { program := "ytmhcbphkkcmecaa", sum := "bcb624b6022af92577dfa67bae04a79a25cb97a0715a1de20b86644741bb1883", func := "headroom/headroomlaw12.SplitWithin", spec := "splitWithin", unfollowed := true, recurses := true, apart := false, narrowed := true }
def SplitWithinUptoSaid : Prop := splitWithinUptoRow.holds Try.pinned (OpenSpec.upto splitWithinSpec)

end Rows
end Go.Proofs.Ytmhcbphkkcmecaa
