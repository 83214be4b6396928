/-
  DERIVED. GIVEN WITH THE SEED: THE CARDS: each row of YtplobfiopbncpaaDoorRows.lean that lists a variable, with what it lists TIED to the program's text (the seventh form; the later family's looks); each row that meets fmt, with fmt's text TOLD by the authors' own Lean function (tested against real Go, not proved from fmt's source: count such statements apart). THE CARD IS WHAT COUNTS. Prove the row's statement (the work); the ties are given (YtplobfiopbncpaaDoorTie.lean); close each card by the builder's one call (the guide's Derived/Test/ToyasCard.lean, 'card_holds'). Laid BY PROGRAM, IN A SANDBOX (cutbox-door.mjs). By AI agents, Wed Nov 11 2026. No macro, syntax, notation, axiom, sorry.
-/
import Derived.Test.YtplobfiopbncpaaDoorRows
import GoSem.ClaimSeven
namespace Go.Proofs.YtplobfiopbncpaaDoor
namespace Rows

/-- THE TIED CARD OF 'sakialaw16.MarkVectors'. -/
def markVectorsCard : Claim7 := { stood := { row := markVectorsRow, standIns := [], harness := (true, "f7e521cd0538a7d23ac939961d37d70a8ae62b443d7527404ecab80923067b5b"), looks := false }, kinds := [], alts := [], laidByText := true, laidKinds := [.data, .data, .data], laidTests := true, laidLooks := .later }
def MarkVectorsCardSaid : Prop := Claim7.holds Tryd.pinned (.plain (OpenSpec.ofChange markVectorsSpec)) markVectorsCard

/-- THE TIED CARD OF 'sakialaw16.MarkTurns'. -/
def markTurnsCard : Claim7 := { stood := { row := markTurnsRow, standIns := [], harness := (true, "f7e521cd0538a7d23ac939961d37d70a8ae62b443d7527404ecab80923067b5b"), looks := false }, kinds := [], alts := [], laidByText := true, laidKinds := [.data, .data, .data], laidTests := true, laidLooks := .later }
def MarkTurnsCardSaid : Prop := Claim7.holds Tryd.pinned (.plain (OpenSpec.ofChange markTurnsSpec)) markTurnsCard

/-- THE TIED CARD OF 'sakialaw16.MarkJoins'. -/
def markJoinsCard : Claim7 := { stood := { row := markJoinsRow, standIns := [], harness := (true, "f7e521cd0538a7d23ac939961d37d70a8ae62b443d7527404ecab80923067b5b"), looks := false }, kinds := [], alts := [], laidByText := true, laidKinds := [.data, .data, .data], laidTests := true, laidLooks := .later }
def MarkJoinsCardSaid : Prop := Claim7.holds Tryd.pinned (.plain (OpenSpec.ofChange markJoinsSpec)) markJoinsCard

/-- THE TIED CARD OF 'sakialaw16.MarkTexts'. -/
def markTextsCard : Claim7 := { stood := { row := markTextsRow, standIns := [], harness := (true, "f7e521cd0538a7d23ac939961d37d70a8ae62b443d7527404ecab80923067b5b"), looks := false }, kinds := [], alts := [], laidByText := true, laidKinds := [.data, .data, .data, .data, .pinned], laidTests := true, laidLooks := .later }
def MarkTextsCardSaid : Prop := Claim7.holds Tryd.pinned (.plain (OpenSpec.ofChange markTextsSpec)) markTextsCard

/-- THE TIED CARD OF 'sakialaw16.MarkParses'. -/
def markParsesCard : Claim7 := { stood := { row := markParsesRow, standIns := [], harness := (true, "f7e521cd0538a7d23ac939961d37d70a8ae62b443d7527404ecab80923067b5b"), looks := false }, kinds := [], alts := [], laidByText := true, laidKinds := [.data, .data, .data, .data, .pinned], laidTests := true, laidLooks := .later }
def MarkParsesCardSaid : Prop := Claim7.holds Tryd.pinned (.plain (OpenSpec.ofChange markParsesSpec)) markParsesCard

/-- THE TIED CARD OF 'sakialaw16.MarkChanges'. -/
def markChangesCard : Claim7 := { stood := { row := markChangesRow, standIns := [], harness := (true, "f7e521cd0538a7d23ac939961d37d70a8ae62b443d7527404ecab80923067b5b"), looks := false }, kinds := [], alts := [], laidByText := true, laidKinds := [.data, .data, .data], laidTests := true, laidLooks := .later }
def MarkChangesCardSaid : Prop := Claim7.holds Tryd.pinned (.plain (OpenSpec.ofChange markChangesSpec)) markChangesCard

/-- THE SECOND FORM's CARD OF 'sakialaw16.MarkVectors'. -/
def markVectorsUptoCard : Claim7 := { stood := { row := markVectorsUptoRow, standIns := [], harness := (true, "f7e521cd0538a7d23ac939961d37d70a8ae62b443d7527404ecab80923067b5b"), looks := false }, kinds := [], alts := [], laidByText := true, laidKinds := [.data, .data, .data], laidTests := true, laidLooks := .later }
def MarkVectorsUptoCardSaid : Prop := Claim7.holds Tryd.pinned (.plain (OpenSpec.upto markVectorsSpec)) markVectorsUptoCard

/-- THE SECOND FORM's CARD OF 'sakialaw16.MarkTurns'. -/
def markTurnsUptoCard : Claim7 := { stood := { row := markTurnsUptoRow, standIns := [], harness := (true, "f7e521cd0538a7d23ac939961d37d70a8ae62b443d7527404ecab80923067b5b"), looks := false }, kinds := [], alts := [], laidByText := true, laidKinds := [.data, .data, .data], laidTests := true, laidLooks := .later }
def MarkTurnsUptoCardSaid : Prop := Claim7.holds Tryd.pinned (.plain (OpenSpec.upto markTurnsSpec)) markTurnsUptoCard

/-- THE SECOND FORM's CARD OF 'sakialaw16.MarkJoins'. -/
def markJoinsUptoCard : Claim7 := { stood := { row := markJoinsUptoRow, standIns := [], harness := (true, "f7e521cd0538a7d23ac939961d37d70a8ae62b443d7527404ecab80923067b5b"), looks := false }, kinds := [], alts := [], laidByText := true, laidKinds := [.data, .data, .data], laidTests := true, laidLooks := .later }
def MarkJoinsUptoCardSaid : Prop := Claim7.holds Tryd.pinned (.plain (OpenSpec.upto markJoinsSpec)) markJoinsUptoCard

/-- THE SECOND FORM's CARD OF 'sakialaw16.MarkTexts'. -/
def markTextsUptoCard : Claim7 := { stood := { row := markTextsUptoRow, standIns := [], harness := (true, "f7e521cd0538a7d23ac939961d37d70a8ae62b443d7527404ecab80923067b5b"), looks := false }, kinds := [], alts := [], laidByText := true, laidKinds := [.data, .data, .data, .data, .pinned], laidTests := true, laidLooks := .later }
def MarkTextsUptoCardSaid : Prop := Claim7.holds Tryd.pinned (.plain (OpenSpec.upto markTextsSpec)) markTextsUptoCard

/-- THE SECOND FORM's CARD OF 'sakialaw16.MarkParses'. -/
def markParsesUptoCard : Claim7 := { stood := { row := markParsesUptoRow, standIns := [], harness := (true, "f7e521cd0538a7d23ac939961d37d70a8ae62b443d7527404ecab80923067b5b"), looks := false }, kinds := [], alts := [], laidByText := true, laidKinds := [.data, .data, .data, .data, .pinned], laidTests := true, laidLooks := .later }
def MarkParsesUptoCardSaid : Prop := Claim7.holds Tryd.pinned (.plain (OpenSpec.upto markParsesSpec)) markParsesUptoCard

/-- THE SECOND FORM's CARD OF 'sakialaw16.MarkChanges'. -/
def markChangesUptoCard : Claim7 := { stood := { row := markChangesUptoRow, standIns := [], harness := (true, "f7e521cd0538a7d23ac939961d37d70a8ae62b443d7527404ecab80923067b5b"), looks := false }, kinds := [], alts := [], laidByText := true, laidKinds := [.data, .data, .data], laidTests := true, laidLooks := .later }
def MarkChangesUptoCardSaid : Prop := Claim7.holds Tryd.pinned (.plain (OpenSpec.upto markChangesSpec)) markChangesUptoCard
end Rows
end Go.Proofs.YtplobfiopbncpaaDoor
