/-
  No cell of these rows narrows 'for every input' (looked for: loops, veiled, ifaces, maps, wideKeys, modest, calm, conditions, laid).
  DERIVED. THE GIVEN ROWS OF THIS SEAT. 3 by the template 'for every input the law returns true; each argument reads behind the call as it read before'; 0 by the template 'total and deterministic' (their statements: YtgkiloidjeahbaaTotals.lean).
  GIVEN WITH THE SEED: the statements are not yours to turn. If you find one false, say at which input.
  Laid BY PROGRAM, IN A SANDBOX (cutbox-rows.mjs): the forced cells as the released guide's own fill.sh prints them over the translation 229561e18ebc16e0… (all of the seat's roots in one cut). By AI agents, Wed Nov 11 2026. No macro, syntax, notation, axiom, sorry.
-/
import Derived.Test.YtgkiloidjeahbaaChecked
import GoSem.Claim
import GoSem.ClaimJoined
import GoSem.ClaimMapViews
import Derived.JoinedTies
import Derived.KernelRfl
namespace Go.Proofs.Ytgkiloidjeahbaa
/- THE CELL 'sum', in the pinned program and in every row, IS THE sha256 OF THE DUMP (.gsa) THAT YtgkiloidjeahbaaProg.lean LOADS. Nothing in Lean hashes anything: it is a label: what it is worth is what the hold of that sum in a sandbox is worth. -/
noncomputable def Try.pinned : Pinned := { name := "ytgkiloidjeahbaa", sum := "229561e18ebc16e07d10e970a66509b8029df362c40bfacd88f4da636ab423c6", checked := Try.checked }
namespace Rows
def none {H : Type} : Left H := { results := [], args := [] }

/-- 'sakialaw12.SamplerMakes': WHATEVER THE INPUT: true; the input reads as it did. -/
def samplerMakesSpec : ChangeSpec := { name := "samplerMakes", fn := fun _ => fun
  | [d1, d2] => { results := [.lit (.bool true)], args := [d1, d2] }
  | _ => none }
def samplerMakesRow : OpenClaim := { program := "ytgkiloidjeahbaa", sum := "229561e18ebc16e07d10e970a66509b8029df362c40bfacd88f4da636ab423c6", func := "sakia/sakialaw12.SamplerMakes", spec := "samplerMakes", unfollowed := true, recurses := true, apart := false }
def SamplerMakesSaid : Prop := samplerMakesRow.holds Try.pinned (OpenSpec.ofChange samplerMakesSpec)

/-- ITS FALSE NEIGHBOUR: 'it returns false'. Refute it at one input. -/
def samplerMakesWrong : ChangeSpec := { name := "samplerMakes", fn := fun _ => fun
  | [d1, d2] => { results := [.lit (.bool false)], args := [d1, d2] }
  | _ => none }
def SamplerMakesWrongFalsely : Prop := samplerMakesRow.holds Try.pinned (OpenSpec.ofChange samplerMakesWrong)

/-- 'sakialaw12.SamplerShards': WHATEVER THE INPUT: true; the input reads as it did. -/
def samplerShardsSpec : ChangeSpec := { name := "samplerShards", fn := fun _ => fun
  | [d1, d2, d3] => { results := [.lit (.bool true)], args := [d1, d2, d3] }
  | _ => none }
def samplerShardsRow : OpenClaim := { program := "ytgkiloidjeahbaa", sum := "229561e18ebc16e07d10e970a66509b8029df362c40bfacd88f4da636ab423c6", func := "sakia/sakialaw12.SamplerShards", spec := "samplerShards", unfollowed := true, recurses := true, apart := false }
def SamplerShardsSaid : Prop := samplerShardsRow.holds Try.pinned (OpenSpec.ofChange samplerShardsSpec)

/-- ITS FALSE NEIGHBOUR: 'it returns false'. Refute it at one input. -/
def samplerShardsWrong : ChangeSpec := { name := "samplerShards", fn := fun _ => fun
  | [d1, d2, d3] => { results := [.lit (.bool false)], args := [d1, d2, d3] }
  | _ => none }
def SamplerShardsWrongFalsely : Prop := samplerShardsRow.holds Try.pinned (OpenSpec.ofChange samplerShardsWrong)

/-- 'sakialaw12.SamplerMicros': WHATEVER THE INPUT: true; the input reads as it did. -/
def samplerMicrosSpec : ChangeSpec := { name := "samplerMicros", fn := fun _ => fun
  | [d1, d2, d3] => { results := [.lit (.bool true)], args := [d1, d2, d3] }
  | _ => none }
def samplerMicrosRow : OpenClaim := { program := "ytgkiloidjeahbaa", sum := "229561e18ebc16e07d10e970a66509b8029df362c40bfacd88f4da636ab423c6", func := "sakia/sakialaw12.SamplerMicros", spec := "samplerMicros", unfollowed := true, recurses := true, apart := false }
def SamplerMicrosSaid : Prop := samplerMicrosRow.holds Try.pinned (OpenSpec.ofChange samplerMicrosSpec)

/-- ITS FALSE NEIGHBOUR: 'it returns false'. Refute it at one input. -/
def samplerMicrosWrong : ChangeSpec := { name := "samplerMicros", fn := fun _ => fun
  | [d1, d2, d3] => { results := [.lit (.bool false)], args := [d1, d2, d3] }
  | _ => none }
def SamplerMicrosWrongFalsely : Prop := samplerMicrosRow.holds Try.pinned (OpenSpec.ofChange samplerMicrosWrong)

/- THE SECOND FORM. 'bulk': how many values and letters a reading holds, each counted each time it is reached (what is shared counts as often as it is met; a slice's spare places count too). A statement '..UptoSaid' is the law's where the arguments, and the package variables that the reading takes, are together of bulk at most 1048576: NARROWER than '..Said'. Prove '..Said' where nothing that the law and all that it calls make is longer than what came in: it says more and counts as full. Else prove '..UptoSaid'. A law counts once. -/
mutual
def uptoBulk {H : Type} : DataW H → Nat
  | .lit (.string bytes) => bytes.length + 1
  | .lit _ => 1
  | .nil => 1
  | .ptr d => uptoBulk d + 1
  | .slice elems spare => uptoBulkAll elems + uptoBulkAll spare + 1
  | .agg parts => uptoBulkAll parts + 1
  | .iface _ d => uptoBulk d + 1
  | .map entries => uptoBulkEntries entries + 1
  | .held _ => 1
def uptoBulkAll {H : Type} : List (DataW H) → Nat
  | [] => 0
  | d :: r => uptoBulk d + uptoBulkAll r
def uptoBulkEntries {H : Type} : List (Lit × DataW H) → Nat
  | [] => 0
  | x :: r => uptoBulkEntry x + uptoBulkEntries r
def uptoBulkEntry {H : Type} : Lit × DataW H → Nat
  | (.string bytes, d) => bytes.length + uptoBulk d + 1
  | (_, d) => uptoBulk d + 1
 end
def uptoSmall : (H : Type) → List (DataW H) → Bool := fun _ ds => decide (uptoBulkAll ds ≤ 1048576)
def OpenSpec.upto (s : _root_.Go.ChangeSpec) : _root_.Go.OpenSpec := { _root_.Go.OpenSpec.ofChange s with cond := some uptoSmall }

/-- 'sakialaw12.SamplerMakes', WHERE WHAT IT READS IS OF BULK AT MOST 1048576: true; the input reads as it did. -/
def samplerMakesUptoRow : OpenClaim := { program := "ytgkiloidjeahbaa", sum := "229561e18ebc16e07d10e970a66509b8029df362c40bfacd88f4da636ab423c6", func := "sakia/sakialaw12.SamplerMakes", spec := "samplerMakes", unfollowed := true, recurses := true, apart := false, narrowed := true }
def SamplerMakesUptoSaid : Prop := samplerMakesUptoRow.holds Try.pinned (OpenSpec.upto samplerMakesSpec)

/-- 'sakialaw12.SamplerShards', WHERE WHAT IT READS IS OF BULK AT MOST 1048576: true; the input reads as it did. -/
def samplerShardsUptoRow : OpenClaim := { program := "ytgkiloidjeahbaa", sum := "229561e18ebc16e07d10e970a66509b8029df362c40bfacd88f4da636ab423c6", func := "sakia/sakialaw12.SamplerShards", spec := "samplerShards", unfollowed := true, recurses := true, apart := false, narrowed := true }
def SamplerShardsUptoSaid : Prop := samplerShardsUptoRow.holds Try.pinned (OpenSpec.upto samplerShardsSpec)

/-- 'sakialaw12.SamplerMicros', WHERE WHAT IT READS IS OF BULK AT MOST 1048576: true; the input reads as it did. -/
def samplerMicrosUptoRow : OpenClaim := { program := "ytgkiloidjeahbaa", sum := "229561e18ebc16e07d10e970a66509b8029df362c40bfacd88f4da636ab423c6", func := "sakia/sakialaw12.SamplerMicros", spec := "samplerMicros", unfollowed := true, recurses := true, apart := false, narrowed := true }
def SamplerMicrosUptoSaid : Prop := samplerMicrosUptoRow.holds Try.pinned (OpenSpec.upto samplerMicrosSpec)

end Rows
end Go.Proofs.Ytgkiloidjeahbaa
