/-
  DERIVED. GIVEN WITH THE SEED: THE CARDS: each row of YtffgcloacdpfaaaDoorRows.lean that lists a variable, with what it lists TIED to the program's text (the seventh form; the later family's looks); each row that meets fmt, with fmt's text TOLD by the authors' own Lean function (tested against real Go, not proved from fmt's source: count such statements apart). THE CARD IS WHAT COUNTS. Prove the row's statement (the work); the ties are given (YtffgcloacdpfaaaDoorTie.lean); close each card by the builder's one call (the guide's Derived/Test/ToyasCard.lean, 'card_holds'). Laid BY PROGRAM, IN A SANDBOX (cutbox-door.mjs). By AI agents, Wed Nov 11 2026. No macro, syntax, notation, axiom, sorry.
-/
import Derived.Test.YtffgcloacdpfaaaDoorRows
import GoSem.ClaimSeven
namespace Go.Proofs.YtffgcloacdpfaaaDoor
namespace Rows

/-- THE TIED CARD OF 'sakialaw17.TagPacks'. -/
def tagPacksCard : Claim7 := { stood := { row := tagPacksRow, standIns := [], harness := (true, "510d04a44794fb9e6fc53c2df2638a7f946044d044a19504841d2ddc0542ffdf"), looks := false }, kinds := [], alts := [], laidByText := true, laidKinds := [.data, .data, .data], laidTests := true, laidLooks := .later }
def TagPacksCardSaid : Prop := Claim7.holds Tryd.pinned (.plain (OpenSpec.ofChange tagPacksSpec)) tagPacksCard

/-- THE TIED CARD OF 'sakialaw17.TagUnpacks'. -/
def tagUnpacksCard : Claim7 := { stood := { row := tagUnpacksRow, standIns := [], harness := (true, "510d04a44794fb9e6fc53c2df2638a7f946044d044a19504841d2ddc0542ffdf"), looks := false }, kinds := [], alts := [], laidByText := true, laidKinds := [.data, .data, .data], laidTests := true, laidLooks := .later }
def TagUnpacksCardSaid : Prop := Claim7.holds Tryd.pinned (.plain (OpenSpec.ofChange tagUnpacksSpec)) tagUnpacksCard

/-- THE TIED CARD OF 'sakialaw17.TagTexts'. -/
def tagTextsCard : Claim7 := { stood := { row := tagTextsRow, standIns := [], harness := (true, "510d04a44794fb9e6fc53c2df2638a7f946044d044a19504841d2ddc0542ffdf"), looks := false }, kinds := [], alts := [], laidByText := true, laidKinds := [.data, .data, .data, .data, .pinned], laidTests := true, laidLooks := .later }
def TagTextsCardSaid : Prop := Claim7.holds Tryd.pinned (.plain (OpenSpec.ofChange tagTextsSpec)) tagTextsCard

/-- THE TIED CARD OF 'sakialaw17.TagParses'. -/
def tagParsesCard : Claim7 := { stood := { row := tagParsesRow, standIns := [], harness := (true, "510d04a44794fb9e6fc53c2df2638a7f946044d044a19504841d2ddc0542ffdf"), looks := false }, kinds := [], alts := [], laidByText := true, laidKinds := [.data, .data, .data, .data, .pinned], laidTests := true, laidLooks := .later }
def TagParsesCardSaid : Prop := Claim7.holds Tryd.pinned (.plain (OpenSpec.ofChange tagParsesSpec)) tagParsesCard

/-- THE TIED CARD OF 'sakialaw17.TagOrders'. -/
def tagOrdersCard : Claim7 := { stood := { row := tagOrdersRow, standIns := [], harness := (true, "510d04a44794fb9e6fc53c2df2638a7f946044d044a19504841d2ddc0542ffdf"), looks := false }, kinds := [], alts := [], laidByText := true, laidKinds := [.data, .data, .data], laidTests := true, laidLooks := .later }
def TagOrdersCardSaid : Prop := Claim7.holds Tryd.pinned (.plain (OpenSpec.ofChange tagOrdersSpec)) tagOrdersCard

/-- THE SECOND FORM's CARD OF 'sakialaw17.TagPacks'. -/
def tagPacksUptoCard : Claim7 := { stood := { row := tagPacksUptoRow, standIns := [], harness := (true, "510d04a44794fb9e6fc53c2df2638a7f946044d044a19504841d2ddc0542ffdf"), looks := false }, kinds := [], alts := [], laidByText := true, laidKinds := [.data, .data, .data], laidTests := true, laidLooks := .later }
def TagPacksUptoCardSaid : Prop := Claim7.holds Tryd.pinned (.plain (OpenSpec.upto tagPacksSpec)) tagPacksUptoCard

/-- THE SECOND FORM's CARD OF 'sakialaw17.TagUnpacks'. -/
def tagUnpacksUptoCard : Claim7 := { stood := { row := tagUnpacksUptoRow, standIns := [], harness := (true, "510d04a44794fb9e6fc53c2df2638a7f946044d044a19504841d2ddc0542ffdf"), looks := false }, kinds := [], alts := [], laidByText := true, laidKinds := [.data, .data, .data], laidTests := true, laidLooks := .later }
def TagUnpacksUptoCardSaid : Prop := Claim7.holds Tryd.pinned (.plain (OpenSpec.upto tagUnpacksSpec)) tagUnpacksUptoCard

/-- THE SECOND FORM's CARD OF 'sakialaw17.TagTexts'. -/
def tagTextsUptoCard : Claim7 := { stood := { row := tagTextsUptoRow, standIns := [], harness := (true, "510d04a44794fb9e6fc53c2df2638a7f946044d044a19504841d2ddc0542ffdf"), looks := false }, kinds := [], alts := [], laidByText := true, laidKinds := [.data, .data, .data, .data, .pinned], laidTests := true, laidLooks := .later }
def TagTextsUptoCardSaid : Prop := Claim7.holds Tryd.pinned (.plain (OpenSpec.upto tagTextsSpec)) tagTextsUptoCard

/-- THE SECOND FORM's CARD OF 'sakialaw17.TagParses'. -/
def tagParsesUptoCard : Claim7 := { stood := { row := tagParsesUptoRow, standIns := [], harness := (true, "510d04a44794fb9e6fc53c2df2638a7f946044d044a19504841d2ddc0542ffdf"), looks := false }, kinds := [], alts := [], laidByText := true, laidKinds := [.data, .data, .data, .data, .pinned], laidTests := true, laidLooks := .later }
def TagParsesUptoCardSaid : Prop := Claim7.holds Tryd.pinned (.plain (OpenSpec.upto tagParsesSpec)) tagParsesUptoCard

/-- THE SECOND FORM's CARD OF 'sakialaw17.TagOrders'. -/
def tagOrdersUptoCard : Claim7 := { stood := { row := tagOrdersUptoRow, standIns := [], harness := (true, "510d04a44794fb9e6fc53c2df2638a7f946044d044a19504841d2ddc0542ffdf"), looks := false }, kinds := [], alts := [], laidByText := true, laidKinds := [.data, .data, .data], laidTests := true, laidLooks := .later }
def TagOrdersUptoCardSaid : Prop := Claim7.holds Tryd.pinned (.plain (OpenSpec.upto tagOrdersSpec)) tagOrdersUptoCard
end Rows
end Go.Proofs.YtffgcloacdpfaaaDoor
