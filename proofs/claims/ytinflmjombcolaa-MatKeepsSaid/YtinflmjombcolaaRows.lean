/-
  No cell of these rows narrows 'for every input' (looked for: loops, veiled, ifaces, maps, wideKeys, modest, calm, conditions, laid).
  DERIVED. THE GIVEN ROWS OF THIS SEAT. 5 by the template 'for every input the law returns true; each argument reads behind the call as it read before'; 0 by the template 'total and deterministic' (their statements: YtinflmjombcolaaTotals.lean).
  GIVEN WITH THE SEED: the statements are not yours to turn. If you find one false, say at which input.
  Laid BY PROGRAM, IN A SANDBOX (cutbox-rows.mjs): the forced cells as the released guide's own fill.sh prints them over the translation 47c155ce795fe7a8… (all of the seat's roots in one cut). By AI agents, Wed Nov 11 2026. No macro, syntax, notation, axiom, sorry.
-/
import Derived.Test.YtinflmjombcolaaChecked
import GoSem.Claim
import GoSem.ClaimJoined
import GoSem.ClaimMapViews
import Derived.JoinedTies
import Derived.KernelRfl
namespace Go.Proofs.Ytinflmjombcolaa
/- THE CELL 'sum', in the pinned program and in every row, IS THE sha256 OF THE DUMP (.gsa) THAT YtinflmjombcolaaProg.lean LOADS. Nothing in Lean hashes anything: it is a label: what it is worth is what the hold of that sum in a sandbox is worth. -/
noncomputable def Try.pinned : Pinned := { name := "ytinflmjombcolaa", sum := "47c155ce795fe7a85d7dcdd30d63f4c5cc898c036f3dc2a01491e6ba6c80c669", checked := Try.checked }
namespace Rows
def none {H : Type} : Left H := { results := [], args := [] }

/-- 'sakialaw07.MatMakes': WHATEVER THE INPUT: true; the input reads as it did. -/
def matMakesSpec : ChangeSpec := { name := "matMakes", fn := fun _ => fun
  | [d1, d2, d3] => { results := [.lit (.bool true)], args := [d1, d2, d3] }
  | _ => none }
def matMakesRow : OpenClaim := { program := "ytinflmjombcolaa", sum := "47c155ce795fe7a85d7dcdd30d63f4c5cc898c036f3dc2a01491e6ba6c80c669", func := "sakia/sakialaw07.MatMakes", spec := "matMakes", unfollowed := true, recurses := true, apart := false }
def MatMakesSaid : Prop := matMakesRow.holds Try.pinned (OpenSpec.ofChange matMakesSpec)

/-- ITS FALSE NEIGHBOUR: 'it returns false'. Refute it at one input. -/
def matMakesWrong : ChangeSpec := { name := "matMakes", fn := fun _ => fun
  | [d1, d2, d3] => { results := [.lit (.bool false)], args := [d1, d2, d3] }
  | _ => none }
def MatMakesWrongFalsely : Prop := matMakesRow.holds Try.pinned (OpenSpec.ofChange matMakesWrong)

/-- 'sakialaw07.MatProducts': WHATEVER THE INPUT: true; the input reads as it did. -/
def matProductsSpec : ChangeSpec := { name := "matProducts", fn := fun _ => fun
  | [d1, d2, d3] => { results := [.lit (.bool true)], args := [d1, d2, d3] }
  | _ => none }
def matProductsRow : OpenClaim := { program := "ytinflmjombcolaa", sum := "47c155ce795fe7a85d7dcdd30d63f4c5cc898c036f3dc2a01491e6ba6c80c669", func := "sakia/sakialaw07.MatProducts", spec := "matProducts", unfollowed := true, recurses := true, apart := false }
def MatProductsSaid : Prop := matProductsRow.holds Try.pinned (OpenSpec.ofChange matProductsSpec)

/-- ITS FALSE NEIGHBOUR: 'it returns false'. Refute it at one input. -/
def matProductsWrong : ChangeSpec := { name := "matProducts", fn := fun _ => fun
  | [d1, d2, d3] => { results := [.lit (.bool false)], args := [d1, d2, d3] }
  | _ => none }
def MatProductsWrongFalsely : Prop := matProductsRow.holds Try.pinned (OpenSpec.ofChange matProductsWrong)

/-- 'sakialaw07.MatTurns': WHATEVER THE INPUT: true; the input reads as it did. -/
def matTurnsSpec : ChangeSpec := { name := "matTurns", fn := fun _ => fun
  | [d1, d2, d3] => { results := [.lit (.bool true)], args := [d1, d2, d3] }
  | _ => none }
def matTurnsRow : OpenClaim := { program := "ytinflmjombcolaa", sum := "47c155ce795fe7a85d7dcdd30d63f4c5cc898c036f3dc2a01491e6ba6c80c669", func := "sakia/sakialaw07.MatTurns", spec := "matTurns", unfollowed := true, recurses := true, apart := false }
def MatTurnsSaid : Prop := matTurnsRow.holds Try.pinned (OpenSpec.ofChange matTurnsSpec)

/-- ITS FALSE NEIGHBOUR: 'it returns false'. Refute it at one input. -/
def matTurnsWrong : ChangeSpec := { name := "matTurns", fn := fun _ => fun
  | [d1, d2, d3] => { results := [.lit (.bool false)], args := [d1, d2, d3] }
  | _ => none }
def MatTurnsWrongFalsely : Prop := matTurnsRow.holds Try.pinned (OpenSpec.ofChange matTurnsWrong)

/-- 'sakialaw07.MatOuters': WHATEVER THE INPUT: true; the input reads as it did. -/
def matOutersSpec : ChangeSpec := { name := "matOuters", fn := fun _ => fun
  | [d1, d2, d3] => { results := [.lit (.bool true)], args := [d1, d2, d3] }
  | _ => none }
def matOutersRow : OpenClaim := { program := "ytinflmjombcolaa", sum := "47c155ce795fe7a85d7dcdd30d63f4c5cc898c036f3dc2a01491e6ba6c80c669", func := "sakia/sakialaw07.MatOuters", spec := "matOuters", unfollowed := true, recurses := true, apart := false }
def MatOutersSaid : Prop := matOutersRow.holds Try.pinned (OpenSpec.ofChange matOutersSpec)

/-- ITS FALSE NEIGHBOUR: 'it returns false'. Refute it at one input. -/
def matOutersWrong : ChangeSpec := { name := "matOuters", fn := fun _ => fun
  | [d1, d2, d3] => { results := [.lit (.bool false)], args := [d1, d2, d3] }
  | _ => none }
def MatOutersWrongFalsely : Prop := matOutersRow.holds Try.pinned (OpenSpec.ofChange matOutersWrong)

/-- 'sakialaw07.MatKeeps': WHATEVER THE INPUT: true; the input reads as it did. -/
def matKeepsSpec : ChangeSpec := { name := "matKeeps", fn := fun _ => fun
  | [d1, d2] => { results := [.lit (.bool true)], args := [d1, d2] }
  | _ => none }
def matKeepsRow : OpenClaim := { program := "ytinflmjombcolaa", sum := "47c155ce795fe7a85d7dcdd30d63f4c5cc898c036f3dc2a01491e6ba6c80c669", func := "sakia/sakialaw07.MatKeeps", spec := "matKeeps", unfollowed := true, recurses := true, apart := false }
def MatKeepsSaid : Prop := matKeepsRow.holds Try.pinned (OpenSpec.ofChange matKeepsSpec)

/-- ITS FALSE NEIGHBOUR: 'it returns false'. Refute it at one input. -/
def matKeepsWrong : ChangeSpec := { name := "matKeeps", fn := fun _ => fun
  | [d1, d2] => { results := [.lit (.bool false)], args := [d1, d2] }
  | _ => none }
def MatKeepsWrongFalsely : Prop := matKeepsRow.holds Try.pinned (OpenSpec.ofChange matKeepsWrong)

/- THE SECOND FORM. 'bulk': how many values and letters a reading holds, each counted each time it is reached (what is shared counts as often as it is met; a slice's spare places count too). A statement '..UptoSaid' is the law's where the arguments, and the package variables that the reading takes, are together of bulk at most 1048576: NARROWER than '..Said'. Prove '..Said' where nothing that the law and all that it calls make is longer than what came in: it says more and counts as full. Else prove '..UptoSaid'. A law counts once. -/
mutual
def uptoBulk {H : Type} : DataW H → Nat
  | .lit (.string bytes) => bytes.length + 1
  | .lit _ => 1
  | .nil => 1
  | .ptr d => uptoBulk d + 1
  | .slice elems spare => uptoBulkAll elems + uptoBulkAll spare + 1
  | .agg parts => uptoBulkAll parts + 1
  | .iface _ d => uptoBulk d + 1
  | .map entries => uptoBulkEntries entries + 1
  | .held _ => 1
def uptoBulkAll {H : Type} : List (DataW H) → Nat
  | [] => 0
  | d :: r => uptoBulk d + uptoBulkAll r
def uptoBulkEntries {H : Type} : List (Lit × DataW H) → Nat
  | [] => 0
  | x :: r => uptoBulkEntry x + uptoBulkEntries r
def uptoBulkEntry {H : Type} : Lit × DataW H → Nat
  | (.string bytes, d) => bytes.length + uptoBulk d + 1
  | (_, d) => uptoBulk d + 1
 end
def uptoSmall : (H : Type) → List (DataW H) → Bool := fun _ ds => decide (uptoBulkAll ds ≤ 1048576)
def OpenSpec.upto (s : _root_.Go.ChangeSpec) : _root_.Go.OpenSpec := { _root_.Go.OpenSpec.ofChange s with cond := some uptoSmall }

/-- 'sakialaw07.MatMakes', WHERE WHAT IT READS IS OF BULK AT MOST 1048576: true; the input reads as it did. -/
def matMakesUptoRow : OpenClaim := { program := "ytinflmjombcolaa", sum := "47c155ce795fe7a85d7dcdd30d63f4c5cc898c036f3dc2a01491e6ba6c80c669", func := "sakia/sakialaw07.MatMakes", spec := "matMakes", unfollowed := true, recurses := true, apart := false, narrowed := true }
def MatMakesUptoSaid : Prop := matMakesUptoRow.holds Try.pinned (OpenSpec.upto matMakesSpec)

/-- 'sakialaw07.MatProducts', WHERE WHAT IT READS IS OF BULK AT MOST 1048576: true; the input reads as it did. -/
def matProductsUptoRow : OpenClaim := { program := "ytinflmjombcolaa", sum := "47c155ce795fe7a85d7dcdd30d63f4c5cc898c036f3dc2a01491e6ba6c80c669", func := "sakia/sakialaw07.MatProducts", spec := "matProducts", unfollowed := true, recurses := true, apart := false, narrowed := true }
def MatProductsUptoSaid : Prop := matProductsUptoRow.holds Try.pinned (OpenSpec.upto matProductsSpec)

/-- 'sakialaw07.MatTurns', WHERE WHAT IT READS IS OF BULK AT MOST 1048576: true; the input reads as it did. -/
def matTurnsUptoRow : OpenClaim := { program := "ytinflmjombcolaa", sum := "47c155ce795fe7a85d7dcdd30d63f4c5cc898c036f3dc2a01491e6ba6c80c669", func := "sakia/sakialaw07.MatTurns", spec := "matTurns", unfollowed := true, recurses := true, apart := false, narrowed := true }
def MatTurnsUptoSaid : Prop := matTurnsUptoRow.holds Try.pinned (OpenSpec.upto matTurnsSpec)

/-- 'sakialaw07.MatOuters', WHERE WHAT IT READS IS OF BULK AT MOST 1048576: true; the input reads as it did. -/
def matOutersUptoRow : OpenClaim := { program := "ytinflmjombcolaa", sum := "47c155ce795fe7a85d7dcdd30d63f4c5cc898c036f3dc2a01491e6ba6c80c669", func := "sakia/sakialaw07.MatOuters", spec := "matOuters", unfollowed := true, recurses := true, apart := false, narrowed := true }
def MatOutersUptoSaid : Prop := matOutersUptoRow.holds Try.pinned (OpenSpec.upto matOutersSpec)

/-- 'sakialaw07.MatKeeps', WHERE WHAT IT READS IS OF BULK AT MOST 1048576: true; the input reads as it did. -/
def matKeepsUptoRow : OpenClaim := { program := "ytinflmjombcolaa", sum := "47c155ce795fe7a85d7dcdd30d63f4c5cc898c036f3dc2a01491e6ba6c80c669", func := "sakia/sakialaw07.MatKeeps", spec := "matKeeps", unfollowed := true, recurses := true, apart := false, narrowed := true }
def MatKeepsUptoSaid : Prop := matKeepsUptoRow.holds Try.pinned (OpenSpec.upto matKeepsSpec)

end Rows
end Go.Proofs.Ytinflmjombcolaa
