/-
  No cell of these rows narrows 'for every input' (looked for: loops, veiled, ifaces, maps, wideKeys, modest, calm, conditions, laid).
  DERIVED. THE GIVEN ROWS OF THIS SEAT. 5 by the template 'for every input the law returns true; each argument reads behind the call as it read before'; 0 by the template 'total and deterministic' (their statements: YtanfdajllhlcbaaTotals.lean).
  GIVEN WITH THE SEED: the statements are not yours to turn. If you find one false, say at which input.
  Laid BY PROGRAM, IN A SANDBOX (cutbox-rows.mjs): the forced cells as the released guide's own fill.sh prints them over the translation 6340e1362190727f… (all of the seat's roots in one cut). By AI agents, Wed Nov 11 2026. No macro, syntax, notation, axiom, sorry.
-/
import Derived.Test.YtanfdajllhlcbaaChecked
import GoSem.Claim
import GoSem.ClaimJoined
import GoSem.ClaimMapViews
import Derived.JoinedTies
import Derived.KernelRfl
namespace Go.Proofs.Ytanfdajllhlcbaa
/- THE CELL 'sum', in the pinned program and in every row, IS THE sha256 OF THE DUMP (.gsa) THAT YtanfdajllhlcbaaProg.lean LOADS. Nothing in Lean hashes anything: it is a label: what it is worth is what the hold of that sum in a sandbox is worth. -/
noncomputable def Try.pinned : Pinned := { name := "ytanfdajllhlcbaa", sum := "6340e1362190727f6fc0d92facd39d1b770605680cf732cd2293696c36559540", checked := Try.checked }
namespace Rows
def none {H : Type} : Left H := { results := [], args := [] }

/-- 'sakialaw06.PermShuffles': WHATEVER THE INPUT: true; the input reads as it did. -/
def permShufflesSpec : ChangeSpec := { name := "permShuffles", fn := fun _ => fun
  | [d1, d2, d3] => { results := [.lit (.bool true)], args := [d1, d2, d3] }
  | _ => none }
def permShufflesRow : OpenClaim := { program := "ytanfdajllhlcbaa", sum := "6340e1362190727f6fc0d92facd39d1b770605680cf732cd2293696c36559540", func := "sakia/sakialaw06.PermShuffles", spec := "permShuffles", unfollowed := true, recurses := true, apart := false }
def PermShufflesSaid : Prop := permShufflesRow.holds Try.pinned (OpenSpec.ofChange permShufflesSpec)

/-- ITS FALSE NEIGHBOUR: 'it returns false'. Refute it at one input. -/
def permShufflesWrong : ChangeSpec := { name := "permShuffles", fn := fun _ => fun
  | [d1, d2, d3] => { results := [.lit (.bool false)], args := [d1, d2, d3] }
  | _ => none }
def PermShufflesWrongFalsely : Prop := permShufflesRow.holds Try.pinned (OpenSpec.ofChange permShufflesWrong)

/-- 'sakialaw06.PermDraws': WHATEVER THE INPUT: true; the input reads as it did. -/
def permDrawsSpec : ChangeSpec := { name := "permDraws", fn := fun _ => fun
  | [d] => { results := [.lit (.bool true)], args := [d] }
  | _ => none }
def permDrawsRow : OpenClaim := { program := "ytanfdajllhlcbaa", sum := "6340e1362190727f6fc0d92facd39d1b770605680cf732cd2293696c36559540", func := "sakia/sakialaw06.PermDraws", spec := "permDraws", unfollowed := true, recurses := true, apart := false }
def PermDrawsSaid : Prop := permDrawsRow.holds Try.pinned (OpenSpec.ofChange permDrawsSpec)

/-- ITS FALSE NEIGHBOUR: 'it returns false'. Refute it at one input. -/
def permDrawsWrong : ChangeSpec := { name := "permDraws", fn := fun _ => fun
  | [d] => { results := [.lit (.bool false)], args := [d] }
  | _ => none }
def PermDrawsWrongFalsely : Prop := permDrawsRow.holds Try.pinned (OpenSpec.ofChange permDrawsWrong)

/-- 'sakialaw06.PermInverses': WHATEVER THE INPUT: true; the input reads as it did. -/
def permInversesSpec : ChangeSpec := { name := "permInverses", fn := fun _ => fun
  | [d] => { results := [.lit (.bool true)], args := [d] }
  | _ => none }
def permInversesRow : OpenClaim := { program := "ytanfdajllhlcbaa", sum := "6340e1362190727f6fc0d92facd39d1b770605680cf732cd2293696c36559540", func := "sakia/sakialaw06.PermInverses", spec := "permInverses", unfollowed := true, recurses := true, apart := false }
def PermInversesSaid : Prop := permInversesRow.holds Try.pinned (OpenSpec.ofChange permInversesSpec)

/-- ITS FALSE NEIGHBOUR: 'it returns false'. Refute it at one input. -/
def permInversesWrong : ChangeSpec := { name := "permInverses", fn := fun _ => fun
  | [d] => { results := [.lit (.bool false)], args := [d] }
  | _ => none }
def PermInversesWrongFalsely : Prop := permInversesRow.holds Try.pinned (OpenSpec.ofChange permInversesWrong)

/-- 'sakialaw06.PermComposes': WHATEVER THE INPUT: true; the input reads as it did. -/
def permComposesSpec : ChangeSpec := { name := "permComposes", fn := fun _ => fun
  | [d1, d2] => { results := [.lit (.bool true)], args := [d1, d2] }
  | _ => none }
def permComposesRow : OpenClaim := { program := "ytanfdajllhlcbaa", sum := "6340e1362190727f6fc0d92facd39d1b770605680cf732cd2293696c36559540", func := "sakia/sakialaw06.PermComposes", spec := "permComposes", unfollowed := true, recurses := true, apart := false }
def PermComposesSaid : Prop := permComposesRow.holds Try.pinned (OpenSpec.ofChange permComposesSpec)

/-- ITS FALSE NEIGHBOUR: 'it returns false'. Refute it at one input. -/
def permComposesWrong : ChangeSpec := { name := "permComposes", fn := fun _ => fun
  | [d1, d2] => { results := [.lit (.bool false)], args := [d1, d2] }
  | _ => none }
def PermComposesWrongFalsely : Prop := permComposesRow.holds Try.pinned (OpenSpec.ofChange permComposesWrong)

/-- 'sakialaw06.PermCycles': WHATEVER THE INPUT: true; the input reads as it did. -/
def permCyclesSpec : ChangeSpec := { name := "permCycles", fn := fun _ => fun
  | [d] => { results := [.lit (.bool true)], args := [d] }
  | _ => none }
def permCyclesRow : OpenClaim := { program := "ytanfdajllhlcbaa", sum := "6340e1362190727f6fc0d92facd39d1b770605680cf732cd2293696c36559540", func := "sakia/sakialaw06.PermCycles", spec := "permCycles", unfollowed := true, recurses := true, apart := false }
def PermCyclesSaid : Prop := permCyclesRow.holds Try.pinned (OpenSpec.ofChange permCyclesSpec)

/-- ITS FALSE NEIGHBOUR: 'it returns false'. Refute it at one input. -/
def permCyclesWrong : ChangeSpec := { name := "permCycles", fn := fun _ => fun
  | [d] => { results := [.lit (.bool false)], args := [d] }
  | _ => none }
def PermCyclesWrongFalsely : Prop := permCyclesRow.holds Try.pinned (OpenSpec.ofChange permCyclesWrong)

/- THE SECOND FORM. 'bulk': how many values and letters a reading holds, each counted each time it is reached (what is shared counts as often as it is met; a slice's spare places count too). A statement '..UptoSaid' is the law's where the arguments, and the package variables that the reading takes, are together of bulk at most 1048576: NARROWER than '..Said'. Prove '..Said' where nothing that the law and all that it calls make is longer than what came in: it says more and counts as full. Else prove '..UptoSaid'. A law counts once. -/
mutual
def uptoBulk {H : Type} : DataW H → Nat
  | .lit (.string bytes) => bytes.length + 1
  | .lit _ => 1
  | .nil => 1
  | .ptr d => uptoBulk d + 1
  | .slice elems spare => uptoBulkAll elems + uptoBulkAll spare + 1
  | .agg parts => uptoBulkAll parts + 1
  | .iface _ d => uptoBulk d + 1
  | .map entries => uptoBulkEntries entries + 1
  | .held _ => 1
def uptoBulkAll {H : Type} : List (DataW H) → Nat
  | [] => 0
  | d :: r => uptoBulk d + uptoBulkAll r
def uptoBulkEntries {H : Type} : List (Lit × DataW H) → Nat
  | [] => 0
  | x :: r => uptoBulkEntry x + uptoBulkEntries r
def uptoBulkEntry {H : Type} : Lit × DataW H → Nat
  | (.string bytes, d) => bytes.length + uptoBulk d + 1
  | (_, d) => uptoBulk d + 1
 end
def uptoSmall : (H : Type) → List (DataW H) → Bool := fun _ ds => decide (uptoBulkAll ds ≤ 1048576)
def OpenSpec.upto (s : _root_.Go.ChangeSpec) : _root_.Go.OpenSpec := { _root_.Go.OpenSpec.ofChange s with cond := some uptoSmall }

/-- 'sakialaw06.PermShuffles', WHERE WHAT IT READS IS OF BULK AT MOST 1048576: true; the input reads as it did. -/
def permShufflesUptoRow : OpenClaim := { program := "ytanfdajllhlcbaa", sum := "6340e1362190727f6fc0d92facd39d1b770605680cf732cd2293696c36559540", func := "sakia/sakialaw06.PermShuffles", spec := "permShuffles", unfollowed := true, recurses := true, apart := false, narrowed := true }
def PermShufflesUptoSaid : Prop := permShufflesUptoRow.holds Try.pinned (OpenSpec.upto permShufflesSpec)

/-- 'sakialaw06.PermDraws', WHERE WHAT IT READS IS OF BULK AT MOST 1048576: true; the input reads as it did. -/
def permDrawsUptoRow : OpenClaim := { program := "ytanfdajllhlcbaa", sum := "6340e1362190727f6fc0d92facd39d1b770605680cf732cd2293696c36559540", func := "sakia/sakialaw06.PermDraws", spec := "permDraws", unfollowed := true, recurses := true, apart := false, narrowed := true }
def PermDrawsUptoSaid : Prop := permDrawsUptoRow.holds Try.pinned (OpenSpec.upto permDrawsSpec)

/-- 'sakialaw06.PermInverses', WHERE WHAT IT READS IS OF BULK AT MOST 1048576: true; the input reads as it did. -/
def permInversesUptoRow : OpenClaim := { program := "ytanfdajllhlcbaa", sum := "6340e1362190727f6fc0d92facd39d1b770605680cf732cd2293696c36559540", func := "sakia/sakialaw06.PermInverses", spec := "permInverses", unfollowed := true, recurses := true, apart := false, narrowed := true }
def PermInversesUptoSaid : Prop := permInversesUptoRow.holds Try.pinned (OpenSpec.upto permInversesSpec)

/-- 'sakialaw06.PermComposes', WHERE WHAT IT READS IS OF BULK AT MOST 1048576: true; the input reads as it did. -/
def permComposesUptoRow : OpenClaim := { program := "ytanfdajllhlcbaa", sum := "6340e1362190727f6fc0d92facd39d1b770605680cf732cd2293696c36559540", func := "sakia/sakialaw06.PermComposes", spec := "permComposes", unfollowed := true, recurses := true, apart := false, narrowed := true }
def PermComposesUptoSaid : Prop := permComposesUptoRow.holds Try.pinned (OpenSpec.upto permComposesSpec)

/-- 'sakialaw06.PermCycles', WHERE WHAT IT READS IS OF BULK AT MOST 1048576: true; the input reads as it did. -/
def permCyclesUptoRow : OpenClaim := { program := "ytanfdajllhlcbaa", sum := "6340e1362190727f6fc0d92facd39d1b770605680cf732cd2293696c36559540", func := "sakia/sakialaw06.PermCycles", spec := "permCycles", unfollowed := true, recurses := true, apart := false, narrowed := true }
def PermCyclesUptoSaid : Prop := permCyclesUptoRow.holds Try.pinned (OpenSpec.upto permCyclesSpec)

end Rows
end Go.Proofs.Ytanfdajllhlcbaa
