/-
  No cell of these rows narrows 'for every input' (looked for: loops, veiled, ifaces, maps, wideKeys, modest, calm, conditions, laid).
  DERIVED. THE GIVEN ROWS OF THIS SEAT. 5 by the template 'for every input the law returns true; each argument reads behind the call as it read before'; 0 by the template 'total and deterministic' (their statements: YtokdolbmbjfhkaaTotals.lean).
  GIVEN WITH THE SEED: the statements are not yours to turn. If you find one false, say at which input.
  Laid BY PROGRAM, IN A SANDBOX (cutbox-rows.mjs): the forced cells as the released guide's own fill.sh prints them over the translation 65e1a37c43fe84e0… (all of the seat's roots in one cut). By AI agents, Wed Nov 11 2026. No macro, syntax, notation, axiom, sorry.
-/
import Derived.Test.YtokdolbmbjfhkaaChecked
import GoSem.Claim
import GoSem.ClaimJoined
import GoSem.ClaimMapViews
import Derived.JoinedTies
import Derived.KernelRfl
namespace Go.Proofs.Ytokdolbmbjfhkaa
/- THE CELL 'sum', in the pinned program and in every row, IS THE sha256 OF THE DUMP (.gsa) THAT YtokdolbmbjfhkaaProg.lean LOADS. Nothing in Lean hashes anything: it is a label: what it is worth is what the hold of that sum in a sandbox is worth. -/
noncomputable def Try.pinned : Pinned := { name := "ytokdolbmbjfhkaa", sum := "65e1a37c43fe84e06c43b8eda5c4d0f3a762549816c9a6301be1bddd2be1e5fc", checked := Try.checked }
namespace Rows
def none {H : Type} : Left H := { results := [], args := [] }

/-- 'sakialaw19.RingSegments': WHATEVER THE INPUT: true; the input reads as it did. -/
def ringSegmentsSpec : ChangeSpec := { name := "ringSegments", fn := fun _ => fun
  | [d1, d2, d3] => { results := [.lit (.bool true)], args := [d1, d2, d3] }
  | _ => none }
def ringSegmentsRow : OpenClaim := { program := "ytokdolbmbjfhkaa", sum := "65e1a37c43fe84e06c43b8eda5c4d0f3a762549816c9a6301be1bddd2be1e5fc", func := "sakia/sakialaw19.RingSegments", spec := "ringSegments", unfollowed := true, recurses := true, apart := false }
def RingSegmentsSaid : Prop := ringSegmentsRow.holds Try.pinned (OpenSpec.ofChange ringSegmentsSpec)

/-- ITS FALSE NEIGHBOUR: 'it returns false'. Refute it at one input. -/
def ringSegmentsWrong : ChangeSpec := { name := "ringSegments", fn := fun _ => fun
  | [d1, d2, d3] => { results := [.lit (.bool false)], args := [d1, d2, d3] }
  | _ => none }
def RingSegmentsWrongFalsely : Prop := ringSegmentsRow.holds Try.pinned (OpenSpec.ofChange ringSegmentsWrong)

/-- 'sakialaw19.RingRounds': WHATEVER THE INPUT: true; the input reads as it did. -/
def ringRoundsSpec : ChangeSpec := { name := "ringRounds", fn := fun _ => fun
  | [d1, d2] => { results := [.lit (.bool true)], args := [d1, d2] }
  | _ => none }
def ringRoundsRow : OpenClaim := { program := "ytokdolbmbjfhkaa", sum := "65e1a37c43fe84e06c43b8eda5c4d0f3a762549816c9a6301be1bddd2be1e5fc", func := "sakia/sakialaw19.RingRounds", spec := "ringRounds", unfollowed := true, recurses := true, apart := false }
def RingRoundsSaid : Prop := ringRoundsRow.holds Try.pinned (OpenSpec.ofChange ringRoundsSpec)

/-- ITS FALSE NEIGHBOUR: 'it returns false'. Refute it at one input. -/
def ringRoundsWrong : ChangeSpec := { name := "ringRounds", fn := fun _ => fun
  | [d1, d2] => { results := [.lit (.bool false)], args := [d1, d2] }
  | _ => none }
def RingRoundsWrongFalsely : Prop := ringRoundsRow.holds Try.pinned (OpenSpec.ofChange ringRoundsWrong)

/-- 'sakialaw19.RingPairs': WHATEVER THE INPUT: true; the input reads as it did. -/
def ringPairsSpec : ChangeSpec := { name := "ringPairs", fn := fun _ => fun
  | [d] => { results := [.lit (.bool true)], args := [d] }
  | _ => none }
def ringPairsRow : OpenClaim := { program := "ytokdolbmbjfhkaa", sum := "65e1a37c43fe84e06c43b8eda5c4d0f3a762549816c9a6301be1bddd2be1e5fc", func := "sakia/sakialaw19.RingPairs", spec := "ringPairs", unfollowed := true, recurses := true, apart := false }
def RingPairsSaid : Prop := ringPairsRow.holds Try.pinned (OpenSpec.ofChange ringPairsSpec)

/-- ITS FALSE NEIGHBOUR: 'it returns false'. Refute it at one input. -/
def ringPairsWrong : ChangeSpec := { name := "ringPairs", fn := fun _ => fun
  | [d] => { results := [.lit (.bool false)], args := [d] }
  | _ => none }
def RingPairsWrongFalsely : Prop := ringPairsRow.holds Try.pinned (OpenSpec.ofChange ringPairsWrong)

/-- 'sakialaw19.RingOwners': WHATEVER THE INPUT: true; the input reads as it did. -/
def ringOwnersSpec : ChangeSpec := { name := "ringOwners", fn := fun _ => fun
  | [d1, d2] => { results := [.lit (.bool true)], args := [d1, d2] }
  | _ => none }
def ringOwnersRow : OpenClaim := { program := "ytokdolbmbjfhkaa", sum := "65e1a37c43fe84e06c43b8eda5c4d0f3a762549816c9a6301be1bddd2be1e5fc", func := "sakia/sakialaw19.RingOwners", spec := "ringOwners", unfollowed := true, recurses := true, apart := false }
def RingOwnersSaid : Prop := ringOwnersRow.holds Try.pinned (OpenSpec.ofChange ringOwnersSpec)

/-- ITS FALSE NEIGHBOUR: 'it returns false'. Refute it at one input. -/
def ringOwnersWrong : ChangeSpec := { name := "ringOwners", fn := fun _ => fun
  | [d1, d2] => { results := [.lit (.bool false)], args := [d1, d2] }
  | _ => none }
def RingOwnersWrongFalsely : Prop := ringOwnersRow.holds Try.pinned (OpenSpec.ofChange ringOwnersWrong)

/-- 'sakialaw19.RingReduces': WHATEVER THE INPUT: true; the input reads as it did. -/
def ringReducesSpec : ChangeSpec := { name := "ringReduces", fn := fun _ => fun
  | [d1, d2] => { results := [.lit (.bool true)], args := [d1, d2] }
  | _ => none }
def ringReducesRow : OpenClaim := { program := "ytokdolbmbjfhkaa", sum := "65e1a37c43fe84e06c43b8eda5c4d0f3a762549816c9a6301be1bddd2be1e5fc", func := "sakia/sakialaw19.RingReduces", spec := "ringReduces", unfollowed := true, recurses := true, apart := false }
def RingReducesSaid : Prop := ringReducesRow.holds Try.pinned (OpenSpec.ofChange ringReducesSpec)

/-- ITS FALSE NEIGHBOUR: 'it returns false'. Refute it at one input. -/
def ringReducesWrong : ChangeSpec := { name := "ringReduces", fn := fun _ => fun
  | [d1, d2] => { results := [.lit (.bool false)], args := [d1, d2] }
  | _ => none }
def RingReducesWrongFalsely : Prop := ringReducesRow.holds Try.pinned (OpenSpec.ofChange ringReducesWrong)

/- THE SECOND FORM. 'bulk': how many values and letters a reading holds, each counted each time it is reached (what is shared counts as often as it is met; a slice's spare places count too). A statement '..UptoSaid' is the law's where the arguments, and the package variables that the reading takes, are together of bulk at most 1048576: NARROWER than '..Said'. Prove '..Said' where nothing that the law and all that it calls make is longer than what came in: it says more and counts as full. Else prove '..UptoSaid'. A law counts once. -/
mutual
def uptoBulk {H : Type} : DataW H → Nat
  | .lit (.string bytes) => bytes.length + 1
  | .lit _ => 1
  | .nil => 1
  | .ptr d => uptoBulk d + 1
  | .slice elems spare => uptoBulkAll elems + uptoBulkAll spare + 1
  | .agg parts => uptoBulkAll parts + 1
  | .iface _ d => uptoBulk d + 1
  | .map entries => uptoBulkEntries entries + 1
  | .held _ => 1
def uptoBulkAll {H : Type} : List (DataW H) → Nat
  | [] => 0
  | d :: r => uptoBulk d + uptoBulkAll r
def uptoBulkEntries {H : Type} : List (Lit × DataW H) → Nat
  | [] => 0
  | x :: r => uptoBulkEntry x + uptoBulkEntries r
def uptoBulkEntry {H : Type} : Lit × DataW H → Nat
  | (.string bytes, d) => bytes.length + uptoBulk d + 1
  | (_, d) => uptoBulk d + 1
 end
def uptoSmall : (H : Type) → List (DataW H) → Bool := fun _ ds => decide (uptoBulkAll ds ≤ 1048576)
def OpenSpec.upto (s : _root_.Go.ChangeSpec) : _root_.Go.OpenSpec := { _root_.Go.OpenSpec.ofChange s with cond := some uptoSmall }

/-- 'sakialaw19.RingSegments', WHERE WHAT IT READS IS OF BULK AT MOST 1048576: true; the input reads as it did. -/
def ringSegmentsUptoRow : OpenClaim := { program := "ytokdolbmbjfhkaa", sum := "65e1a37c43fe84e06c43b8eda5c4d0f3a762549816c9a6301be1bddd2be1e5fc", func := "sakia/sakialaw19.RingSegments", spec := "ringSegments", unfollowed := true, recurses := true, apart := false, narrowed := true }
def RingSegmentsUptoSaid : Prop := ringSegmentsUptoRow.holds Try.pinned (OpenSpec.upto ringSegmentsSpec)

/-- 'sakialaw19.RingRounds', WHERE WHAT IT READS IS OF BULK AT MOST 1048576: true; the input reads as it did. -/
def ringRoundsUptoRow : OpenClaim := { program := "ytokdolbmbjfhkaa", sum := "65e1a37c43fe84e06c43b8eda5c4d0f3a762549816c9a6301be1bddd2be1e5fc", func := "sakia/sakialaw19.RingRounds", spec := "ringRounds", unfollowed := true, recurses := true, apart := false, narrowed := true }
def RingRoundsUptoSaid : Prop := ringRoundsUptoRow.holds Try.pinned (OpenSpec.upto ringRoundsSpec)

/-- 'sakialaw19.RingPairs', WHERE WHAT IT READS IS OF BULK AT MOST 1048576: true; the input reads as it did. -/
def ringPairsUptoRow : OpenClaim := { program := "ytokdolbmbjfhkaa", sum := "65e1a37c43fe84e06c43b8eda5c4d0f3a762549816c9a6301be1bddd2be1e5fc", func := "sakia/sakialaw19.RingPairs", spec := "ringPairs", unfollowed := true, recurses := true, apart := false, narrowed := true }
def RingPairsUptoSaid : Prop := ringPairsUptoRow.holds Try.pinned (OpenSpec.upto ringPairsSpec)

/-- 'sakialaw19.RingOwners', WHERE WHAT IT READS IS OF BULK AT MOST 1048576: true; the input reads as it did. -/
def ringOwnersUptoRow : OpenClaim := { program := "ytokdolbmbjfhkaa", sum := "65e1a37c43fe84e06c43b8eda5c4d0f3a762549816c9a6301be1bddd2be1e5fc", func := "sakia/sakialaw19.RingOwners", spec := "ringOwners", unfollowed := true, recurses := true, apart := false, narrowed := true }
def RingOwnersUptoSaid : Prop := ringOwnersUptoRow.holds Try.pinned (OpenSpec.upto ringOwnersSpec)

/-- 'sakialaw19.RingReduces', WHERE WHAT IT READS IS OF BULK AT MOST 1048576: true; the input reads as it did. -/
def ringReducesUptoRow : OpenClaim := { program := "ytokdolbmbjfhkaa", sum := "65e1a37c43fe84e06c43b8eda5c4d0f3a762549816c9a6301be1bddd2be1e5fc", func := "sakia/sakialaw19.RingReduces", spec := "ringReduces", unfollowed := true, recurses := true, apart := false, narrowed := true }
def RingReducesUptoSaid : Prop := ringReducesUptoRow.holds Try.pinned (OpenSpec.upto ringReducesSpec)

end Rows
end Go.Proofs.Ytokdolbmbjfhkaa
