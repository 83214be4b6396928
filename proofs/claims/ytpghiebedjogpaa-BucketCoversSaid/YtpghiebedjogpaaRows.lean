/-
  No cell of these rows narrows 'for every input' (looked for: loops, veiled, ifaces, maps, wideKeys, modest, calm, conditions, laid).
  DERIVED. THE GIVEN ROWS OF THIS SEAT. 5 by the template 'for every input the law returns true; each argument reads behind the call as it read before'; 0 by the template 'total and deterministic' (their statements: YtpghiebedjogpaaTotals.lean).
  GIVEN WITH THE SEED: the statements are not yours to turn. If you find one false, say at which input.
  Laid BY PROGRAM, IN A SANDBOX (cutbox-rows.mjs): the forced cells as the released guide's own fill.sh prints them over the translation 7883d471b293a13e… (all of the seat's roots in one cut). By AI agents, Wed Nov 11 2026. No macro, syntax, notation, axiom, sorry.
-/
import Derived.Test.YtpghiebedjogpaaChecked
import GoSem.Claim
import GoSem.ClaimJoined
import GoSem.ClaimMapViews
import Derived.JoinedTies
import Derived.KernelRfl
namespace Go.Proofs.Ytpghiebedjogpaa
/- THE CELL 'sum', in the pinned program and in every row, IS THE sha256 OF THE DUMP (.gsa) THAT YtpghiebedjogpaaProg.lean LOADS. Nothing in Lean hashes anything: it is a label: what it is worth is what the hold of that sum in a sandbox is worth. -/
noncomputable def Try.pinned : Pinned := { name := "ytpghiebedjogpaa", sum := "7883d471b293a13e6c3ee2a783cf2c35f7d231c8539a9d2ed2f8d25c685877bb", checked := Try.checked }
namespace Rows
def none {H : Type} : Left H := { results := [], args := [] }

/-- 'sakialaw15.BucketDivides': WHATEVER THE INPUT: true; the input reads as it did. -/
def bucketDividesSpec : ChangeSpec := { name := "bucketDivides", fn := fun _ => fun
  | [d1, d2] => { results := [.lit (.bool true)], args := [d1, d2] }
  | _ => none }
def bucketDividesRow : OpenClaim := { program := "ytpghiebedjogpaa", sum := "7883d471b293a13e6c3ee2a783cf2c35f7d231c8539a9d2ed2f8d25c685877bb", func := "sakia/sakialaw15.BucketDivides", spec := "bucketDivides", apart := false }
def BucketDividesSaid : Prop := bucketDividesRow.holds Try.pinned (OpenSpec.ofChange bucketDividesSpec)

/-- ITS FALSE NEIGHBOUR: 'it returns false'. Refute it at one input. -/
def bucketDividesWrong : ChangeSpec := { name := "bucketDivides", fn := fun _ => fun
  | [d1, d2] => { results := [.lit (.bool false)], args := [d1, d2] }
  | _ => none }
def BucketDividesWrongFalsely : Prop := bucketDividesRow.holds Try.pinned (OpenSpec.ofChange bucketDividesWrong)

/-- 'sakialaw15.BucketSegments': WHATEVER THE INPUT: true; the input reads as it did. -/
def bucketSegmentsSpec : ChangeSpec := { name := "bucketSegments", fn := fun _ => fun
  | [d1, d2, d3] => { results := [.lit (.bool true)], args := [d1, d2, d3] }
  | _ => none }
def bucketSegmentsRow : OpenClaim := { program := "ytpghiebedjogpaa", sum := "7883d471b293a13e6c3ee2a783cf2c35f7d231c8539a9d2ed2f8d25c685877bb", func := "sakia/sakialaw15.BucketSegments", spec := "bucketSegments", unfollowed := true, recurses := true, apart := false }
def BucketSegmentsSaid : Prop := bucketSegmentsRow.holds Try.pinned (OpenSpec.ofChange bucketSegmentsSpec)

/-- ITS FALSE NEIGHBOUR: 'it returns false'. Refute it at one input. -/
def bucketSegmentsWrong : ChangeSpec := { name := "bucketSegments", fn := fun _ => fun
  | [d1, d2, d3] => { results := [.lit (.bool false)], args := [d1, d2, d3] }
  | _ => none }
def BucketSegmentsWrongFalsely : Prop := bucketSegmentsRow.holds Try.pinned (OpenSpec.ofChange bucketSegmentsWrong)

/-- 'sakialaw15.BucketChunks': WHATEVER THE INPUT: true; the input reads as it did. -/
def bucketChunksSpec : ChangeSpec := { name := "bucketChunks", fn := fun _ => fun
  | [d1, d2, d3] => { results := [.lit (.bool true)], args := [d1, d2, d3] }
  | _ => none }
def bucketChunksRow : OpenClaim := { program := "ytpghiebedjogpaa", sum := "7883d471b293a13e6c3ee2a783cf2c35f7d231c8539a9d2ed2f8d25c685877bb", func := "sakia/sakialaw15.BucketChunks", spec := "bucketChunks", unfollowed := true, recurses := true, apart := false }
def BucketChunksSaid : Prop := bucketChunksRow.holds Try.pinned (OpenSpec.ofChange bucketChunksSpec)

/-- ITS FALSE NEIGHBOUR: 'it returns false'. Refute it at one input. -/
def bucketChunksWrong : ChangeSpec := { name := "bucketChunks", fn := fun _ => fun
  | [d1, d2, d3] => { results := [.lit (.bool false)], args := [d1, d2, d3] }
  | _ => none }
def BucketChunksWrongFalsely : Prop := bucketChunksRow.holds Try.pinned (OpenSpec.ofChange bucketChunksWrong)

/-- 'sakialaw15.BucketFinds': WHATEVER THE INPUT: true; the input reads as it did. -/
def bucketFindsSpec : ChangeSpec := { name := "bucketFinds", fn := fun _ => fun
  | [d1, d2] => { results := [.lit (.bool true)], args := [d1, d2] }
  | _ => none }
def bucketFindsRow : OpenClaim := { program := "ytpghiebedjogpaa", sum := "7883d471b293a13e6c3ee2a783cf2c35f7d231c8539a9d2ed2f8d25c685877bb", func := "sakia/sakialaw15.BucketFinds", spec := "bucketFinds", unfollowed := true, recurses := true, apart := false }
def BucketFindsSaid : Prop := bucketFindsRow.holds Try.pinned (OpenSpec.ofChange bucketFindsSpec)

/-- ITS FALSE NEIGHBOUR: 'it returns false'. Refute it at one input. -/
def bucketFindsWrong : ChangeSpec := { name := "bucketFinds", fn := fun _ => fun
  | [d1, d2] => { results := [.lit (.bool false)], args := [d1, d2] }
  | _ => none }
def BucketFindsWrongFalsely : Prop := bucketFindsRow.holds Try.pinned (OpenSpec.ofChange bucketFindsWrong)

/-- 'sakialaw15.BucketCovers': WHATEVER THE INPUT: true; the input reads as it did. -/
def bucketCoversSpec : ChangeSpec := { name := "bucketCovers", fn := fun _ => fun
  | [d1, d2] => { results := [.lit (.bool true)], args := [d1, d2] }
  | _ => none }
def bucketCoversRow : OpenClaim := { program := "ytpghiebedjogpaa", sum := "7883d471b293a13e6c3ee2a783cf2c35f7d231c8539a9d2ed2f8d25c685877bb", func := "sakia/sakialaw15.BucketCovers", spec := "bucketCovers", unfollowed := true, recurses := true, apart := false }
def BucketCoversSaid : Prop := bucketCoversRow.holds Try.pinned (OpenSpec.ofChange bucketCoversSpec)

/-- ITS FALSE NEIGHBOUR: 'it returns false'. Refute it at one input. -/
def bucketCoversWrong : ChangeSpec := { name := "bucketCovers", fn := fun _ => fun
  | [d1, d2] => { results := [.lit (.bool false)], args := [d1, d2] }
  | _ => none }
def BucketCoversWrongFalsely : Prop := bucketCoversRow.holds Try.pinned (OpenSpec.ofChange bucketCoversWrong)

/- THE SECOND FORM. 'bulk': how many values and letters a reading holds, each counted each time it is reached (what is shared counts as often as it is met; a slice's spare places count too). A statement '..UptoSaid' is the law's where the arguments, and the package variables that the reading takes, are together of bulk at most 1048576: NARROWER than '..Said'. Prove '..Said' where nothing that the law and all that it calls make is longer than what came in: it says more and counts as full. Else prove '..UptoSaid'. A law counts once. -/
mutual
def uptoBulk {H : Type} : DataW H → Nat
  | .lit (.string bytes) => bytes.length + 1
  | .lit _ => 1
  | .nil => 1
  | .ptr d => uptoBulk d + 1
  | .slice elems spare => uptoBulkAll elems + uptoBulkAll spare + 1
  | .agg parts => uptoBulkAll parts + 1
  | .iface _ d => uptoBulk d + 1
  | .map entries => uptoBulkEntries entries + 1
  | .held _ => 1
def uptoBulkAll {H : Type} : List (DataW H) → Nat
  | [] => 0
  | d :: r => uptoBulk d + uptoBulkAll r
def uptoBulkEntries {H : Type} : List (Lit × DataW H) → Nat
  | [] => 0
  | x :: r => uptoBulkEntry x + uptoBulkEntries r
def uptoBulkEntry {H : Type} : Lit × DataW H → Nat
  | (.string bytes, d) => bytes.length + uptoBulk d + 1
  | (_, d) => uptoBulk d + 1
 end
def uptoSmall : (H : Type) → List (DataW H) → Bool := fun _ ds => decide (uptoBulkAll ds ≤ 1048576)
def OpenSpec.upto (s : _root_.Go.ChangeSpec) : _root_.Go.OpenSpec := { _root_.Go.OpenSpec.ofChange s with cond := some uptoSmall }

/-- 'sakialaw15.BucketDivides', WHERE WHAT IT READS IS OF BULK AT MOST 1048576: true; the input reads as it did. -/
def bucketDividesUptoRow : OpenClaim := { program := "ytpghiebedjogpaa", sum := "7883d471b293a13e6c3ee2a783cf2c35f7d231c8539a9d2ed2f8d25c685877bb", func := "sakia/sakialaw15.BucketDivides", spec := "bucketDivides", apart := false, narrowed := true }
def BucketDividesUptoSaid : Prop := bucketDividesUptoRow.holds Try.pinned (OpenSpec.upto bucketDividesSpec)

/-- 'sakialaw15.BucketSegments', WHERE WHAT IT READS IS OF BULK AT MOST 1048576: true; the input reads as it did. -/
def bucketSegmentsUptoRow : OpenClaim := { program := "ytpghiebedjogpaa", sum := "7883d471b293a13e6c3ee2a783cf2c35f7d231c8539a9d2ed2f8d25c685877bb", func := "sakia/sakialaw15.BucketSegments", spec := "bucketSegments", unfollowed := true, recurses := true, apart := false, narrowed := true }
def BucketSegmentsUptoSaid : Prop := bucketSegmentsUptoRow.holds Try.pinned (OpenSpec.upto bucketSegmentsSpec)

/-- 'sakialaw15.BucketChunks', WHERE WHAT IT READS IS OF BULK AT MOST 1048576: true; the input reads as it did. -/
def bucketChunksUptoRow : OpenClaim := { program := "ytpghiebedjogpaa", sum := "7883d471b293a13e6c3ee2a783cf2c35f7d231c8539a9d2ed2f8d25c685877bb", func := "sakia/sakialaw15.BucketChunks", spec := "bucketChunks", unfollowed := true, recurses := true, apart := false, narrowed := true }
def BucketChunksUptoSaid : Prop := bucketChunksUptoRow.holds Try.pinned (OpenSpec.upto bucketChunksSpec)

/-- 'sakialaw15.BucketFinds', WHERE WHAT IT READS IS OF BULK AT MOST 1048576: true; the input reads as it did. -/
def bucketFindsUptoRow : OpenClaim := { program := "ytpghiebedjogpaa", sum := "7883d471b293a13e6c3ee2a783cf2c35f7d231c8539a9d2ed2f8d25c685877bb", func := "sakia/sakialaw15.BucketFinds", spec := "bucketFinds", unfollowed := true, recurses := true, apart := false, narrowed := true }
def BucketFindsUptoSaid : Prop := bucketFindsUptoRow.holds Try.pinned (OpenSpec.upto bucketFindsSpec)

/-- 'sakialaw15.BucketCovers', WHERE WHAT IT READS IS OF BULK AT MOST 1048576: true; the input reads as it did. -/
def bucketCoversUptoRow : OpenClaim := { program := "ytpghiebedjogpaa", sum := "7883d471b293a13e6c3ee2a783cf2c35f7d231c8539a9d2ed2f8d25c685877bb", func := "sakia/sakialaw15.BucketCovers", spec := "bucketCovers", unfollowed := true, recurses := true, apart := false, narrowed := true }
def BucketCoversUptoSaid : Prop := bucketCoversUptoRow.holds Try.pinned (OpenSpec.upto bucketCoversSpec)

end Rows
end Go.Proofs.Ytpghiebedjogpaa
