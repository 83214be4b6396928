/-
  No cell of these rows narrows 'for every input' (looked for: loops, veiled, ifaces, maps, wideKeys, modest, calm, conditions, laid).
  DERIVED. THE GIVEN ROWS OF THIS SEAT. 5 by the template 'for every input the law returns true; each argument reads behind the call as it read before'; 0 by the template 'total and deterministic' (their statements: YtpdeckmplkmieaaTotals.lean).
  GIVEN WITH THE SEED: the statements are not yours to turn. If you find one false, say at which input.
  Laid BY PROGRAM, IN A SANDBOX (cutbox-rows.mjs): the forced cells as the released guide's own fill.sh prints them over the translation ffce2b0ed1b0fe1d… (all of the seat's roots in one cut). By AI agents, Wed Nov 11 2026. No macro, syntax, notation, axiom, sorry.
-/
import Derived.Test.YtpdeckmplkmieaaChecked
import GoSem.Claim
import GoSem.ClaimJoined
import GoSem.ClaimMapViews
import Derived.JoinedTies
import Derived.KernelRfl
namespace Go.Proofs.Ytpdeckmplkmieaa
/- THE CELL 'sum', in the pinned program and in every row, IS THE sha256 OF THE DUMP (.gsa) THAT YtpdeckmplkmieaaProg.lean LOADS. Nothing in Lean hashes anything: it is a label: what it is worth is what the hold of that sum in a sandbox is worth. -/
noncomputable def Try.pinned : Pinned := { name := "ytpdeckmplkmieaa", sum := "ffce2b0ed1b0fe1dafaba3d7ebcbd0e3d5cbab4bb8f99b6f3e57a30d63921b00", checked := Try.checked }
namespace Rows
def none {H : Type} : Left H := { results := [], args := [] }

/-- 'sakialaw04.PartEvens': WHATEVER THE INPUT: true; the input reads as it did. -/
def partEvensSpec : ChangeSpec := { name := "partEvens", fn := fun _ => fun
  | [d1, d2] => { results := [.lit (.bool true)], args := [d1, d2] }
  | _ => none }
def partEvensRow : OpenClaim := { program := "ytpdeckmplkmieaa", sum := "ffce2b0ed1b0fe1dafaba3d7ebcbd0e3d5cbab4bb8f99b6f3e57a30d63921b00", func := "sakia/sakialaw04.PartEvens", spec := "partEvens", apart := false }
def PartEvensSaid : Prop := partEvensRow.holds Try.pinned (OpenSpec.ofChange partEvensSpec)

/-- ITS FALSE NEIGHBOUR: 'it returns false'. Refute it at one input. -/
def partEvensWrong : ChangeSpec := { name := "partEvens", fn := fun _ => fun
  | [d1, d2] => { results := [.lit (.bool false)], args := [d1, d2] }
  | _ => none }
def PartEvensWrongFalsely : Prop := partEvensRow.holds Try.pinned (OpenSpec.ofChange partEvensWrong)

/-- 'sakialaw04.PartBlocks': WHATEVER THE INPUT: true; the input reads as it did. -/
def partBlocksSpec : ChangeSpec := { name := "partBlocks", fn := fun _ => fun
  | [d1, d2] => { results := [.lit (.bool true)], args := [d1, d2] }
  | _ => none }
def partBlocksRow : OpenClaim := { program := "ytpdeckmplkmieaa", sum := "ffce2b0ed1b0fe1dafaba3d7ebcbd0e3d5cbab4bb8f99b6f3e57a30d63921b00", func := "sakia/sakialaw04.PartBlocks", spec := "partBlocks", apart := false }
def PartBlocksSaid : Prop := partBlocksRow.holds Try.pinned (OpenSpec.ofChange partBlocksSpec)

/-- ITS FALSE NEIGHBOUR: 'it returns false'. Refute it at one input. -/
def partBlocksWrong : ChangeSpec := { name := "partBlocks", fn := fun _ => fun
  | [d1, d2] => { results := [.lit (.bool false)], args := [d1, d2] }
  | _ => none }
def PartBlocksWrongFalsely : Prop := partBlocksRow.holds Try.pinned (OpenSpec.ofChange partBlocksWrong)

/-- 'sakialaw04.PartFinds': WHATEVER THE INPUT: true; the input reads as it did. -/
def partFindsSpec : ChangeSpec := { name := "partFinds", fn := fun _ => fun
  | [d1, d2] => { results := [.lit (.bool true)], args := [d1, d2] }
  | _ => none }
def partFindsRow : OpenClaim := { program := "ytpdeckmplkmieaa", sum := "ffce2b0ed1b0fe1dafaba3d7ebcbd0e3d5cbab4bb8f99b6f3e57a30d63921b00", func := "sakia/sakialaw04.PartFinds", spec := "partFinds", apart := false }
def PartFindsSaid : Prop := partFindsRow.holds Try.pinned (OpenSpec.ofChange partFindsSpec)

/-- ITS FALSE NEIGHBOUR: 'it returns false'. Refute it at one input. -/
def partFindsWrong : ChangeSpec := { name := "partFinds", fn := fun _ => fun
  | [d1, d2] => { results := [.lit (.bool false)], args := [d1, d2] }
  | _ => none }
def PartFindsWrongFalsely : Prop := partFindsRow.holds Try.pinned (OpenSpec.ofChange partFindsWrong)

/-- 'sakialaw04.PartCovers': WHATEVER THE INPUT: true; the input reads as it did. -/
def partCoversSpec : ChangeSpec := { name := "partCovers", fn := fun _ => fun
  | [d1, d2] => { results := [.lit (.bool true)], args := [d1, d2] }
  | _ => none }
def partCoversRow : OpenClaim := { program := "ytpdeckmplkmieaa", sum := "ffce2b0ed1b0fe1dafaba3d7ebcbd0e3d5cbab4bb8f99b6f3e57a30d63921b00", func := "sakia/sakialaw04.PartCovers", spec := "partCovers", apart := false }
def PartCoversSaid : Prop := partCoversRow.holds Try.pinned (OpenSpec.ofChange partCoversSpec)

/-- ITS FALSE NEIGHBOUR: 'it returns false'. Refute it at one input. -/
def partCoversWrong : ChangeSpec := { name := "partCovers", fn := fun _ => fun
  | [d1, d2] => { results := [.lit (.bool false)], args := [d1, d2] }
  | _ => none }
def PartCoversWrongFalsely : Prop := partCoversRow.holds Try.pinned (OpenSpec.ofChange partCoversWrong)

/-- 'sakialaw04.PartSizes': WHATEVER THE INPUT: true; the input reads as it did. -/
def partSizesSpec : ChangeSpec := { name := "partSizes", fn := fun _ => fun
  | [d1, d2] => { results := [.lit (.bool true)], args := [d1, d2] }
  | _ => none }
def partSizesRow : OpenClaim := { program := "ytpdeckmplkmieaa", sum := "ffce2b0ed1b0fe1dafaba3d7ebcbd0e3d5cbab4bb8f99b6f3e57a30d63921b00", func := "sakia/sakialaw04.PartSizes", spec := "partSizes", apart := false }
def PartSizesSaid : Prop := partSizesRow.holds Try.pinned (OpenSpec.ofChange partSizesSpec)

/-- ITS FALSE NEIGHBOUR: 'it returns false'. Refute it at one input. -/
def partSizesWrong : ChangeSpec := { name := "partSizes", fn := fun _ => fun
  | [d1, d2] => { results := [.lit (.bool false)], args := [d1, d2] }
  | _ => none }
def PartSizesWrongFalsely : Prop := partSizesRow.holds Try.pinned (OpenSpec.ofChange partSizesWrong)

/- THE SECOND FORM. 'bulk': how many values and letters a reading holds, each counted each time it is reached (what is shared counts as often as it is met; a slice's spare places count too). A statement '..UptoSaid' is the law's where the arguments, and the package variables that the reading takes, are together of bulk at most 1048576: NARROWER than '..Said'. Prove '..Said' where nothing that the law and all that it calls make is longer than what came in: it says more and counts as full. Else prove '..UptoSaid'. A law counts once. -/
mutual
def uptoBulk {H : Type} : DataW H → Nat
  | .lit (.string bytes) => bytes.length + 1
  | .lit _ => 1
  | .nil => 1
  | .ptr d => uptoBulk d + 1
  | .slice elems spare => uptoBulkAll elems + uptoBulkAll spare + 1
  | .agg parts => uptoBulkAll parts + 1
  | .iface _ d => uptoBulk d + 1
  | .map entries => uptoBulkEntries entries + 1
  | .held _ => 1
def uptoBulkAll {H : Type} : List (DataW H) → Nat
  | [] => 0
  | d :: r => uptoBulk d + uptoBulkAll r
def uptoBulkEntries {H : Type} : List (Lit × DataW H) → Nat
  | [] => 0
  | x :: r => uptoBulkEntry x + uptoBulkEntries r
def uptoBulkEntry {H : Type} : Lit × DataW H → Nat
  | (.string bytes, d) => bytes.length + uptoBulk d + 1
  | (_, d) => uptoBulk d + 1
 end
def uptoSmall : (H : Type) → List (DataW H) → Bool := fun _ ds => decide (uptoBulkAll ds ≤ 1048576)
def OpenSpec.upto (s : _root_.Go.ChangeSpec) : _root_.Go.OpenSpec := { _root_.Go.OpenSpec.ofChange s with cond := some uptoSmall }

/-- 'sakialaw04.PartEvens', WHERE WHAT IT READS IS OF BULK AT MOST 1048576: true; the input reads as it did. -/
def partEvensUptoRow : OpenClaim := { program := "ytpdeckmplkmieaa", sum := "ffce2b0ed1b0fe1dafaba3d7ebcbd0e3d5cbab4bb8f99b6f3e57a30d63921b00", func := "sakia/sakialaw04.PartEvens", spec := "partEvens", apart := false, narrowed := true }
def PartEvensUptoSaid : Prop := partEvensUptoRow.holds Try.pinned (OpenSpec.upto partEvensSpec)

/-- 'sakialaw04.PartBlocks', WHERE WHAT IT READS IS OF BULK AT MOST 1048576: true; the input reads as it did. -/
def partBlocksUptoRow : OpenClaim := { program := "ytpdeckmplkmieaa", sum := "ffce2b0ed1b0fe1dafaba3d7ebcbd0e3d5cbab4bb8f99b6f3e57a30d63921b00", func := "sakia/sakialaw04.PartBlocks", spec := "partBlocks", apart := false, narrowed := true }
def PartBlocksUptoSaid : Prop := partBlocksUptoRow.holds Try.pinned (OpenSpec.upto partBlocksSpec)

/-- 'sakialaw04.PartFinds', WHERE WHAT IT READS IS OF BULK AT MOST 1048576: true; the input reads as it did. -/
def partFindsUptoRow : OpenClaim := { program := "ytpdeckmplkmieaa", sum := "ffce2b0ed1b0fe1dafaba3d7ebcbd0e3d5cbab4bb8f99b6f3e57a30d63921b00", func := "sakia/sakialaw04.PartFinds", spec := "partFinds", apart := false, narrowed := true }
def PartFindsUptoSaid : Prop := partFindsUptoRow.holds Try.pinned (OpenSpec.upto partFindsSpec)

/-- 'sakialaw04.PartCovers', WHERE WHAT IT READS IS OF BULK AT MOST 1048576: true; the input reads as it did. -/
def partCoversUptoRow : OpenClaim := { program := "ytpdeckmplkmieaa", sum := "ffce2b0ed1b0fe1dafaba3d7ebcbd0e3d5cbab4bb8f99b6f3e57a30d63921b00", func := "sakia/sakialaw04.PartCovers", spec := "partCovers", apart := false, narrowed := true }
def PartCoversUptoSaid : Prop := partCoversUptoRow.holds Try.pinned (OpenSpec.upto partCoversSpec)

/-- 'sakialaw04.PartSizes', WHERE WHAT IT READS IS OF BULK AT MOST 1048576: true; the input reads as it did. -/
def partSizesUptoRow : OpenClaim := { program := "ytpdeckmplkmieaa", sum := "ffce2b0ed1b0fe1dafaba3d7ebcbd0e3d5cbab4bb8f99b6f3e57a30d63921b00", func := "sakia/sakialaw04.PartSizes", spec := "partSizes", apart := false, narrowed := true }
def PartSizesUptoSaid : Prop := partSizesUptoRow.holds Try.pinned (OpenSpec.upto partSizesSpec)

end Rows
end Go.Proofs.Ytpdeckmplkmieaa
