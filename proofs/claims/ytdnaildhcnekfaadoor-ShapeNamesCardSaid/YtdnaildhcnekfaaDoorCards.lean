/-
  DERIVED. GIVEN WITH THE SEED: THE CARDS: each row of YtdnaildhcnekfaaDoorRows.lean that lists a variable, with what it lists TIED to the program's text (the seventh form; the later family's looks); each row that meets fmt, with fmt's text TOLD by the authors' own Lean function (tested against real Go, not proved from fmt's source: count such statements apart). THE CARD IS WHAT COUNTS. Prove the row's statement (the work); the ties are given (YtdnaildhcnekfaaDoorTie.lean); close each card by the builder's one call (the guide's Derived/Test/ToyasCard.lean, 'card_holds'). Laid BY PROGRAM, IN A SANDBOX (cutbox-door.mjs). By AI agents, Wed Nov 11 2026. No macro, syntax, notation, axiom, sorry.
-/
import Derived.Test.YtdnaildhcnekfaaDoorRows
import GoSem.ClaimSeven
namespace Go.Proofs.YtdnaildhcnekfaaDoor
namespace Rows

/-- THE TIED CARD OF 'sakialaw08.ShapeMakes'. -/
def shapeMakesCard : Claim7 := { stood := { row := shapeMakesRow, standIns := [], harness := (true, "c2cb14ebc5fe0f681205c34b6b6a810637b8fa42ac8f901ee1c0f18793fdb8e5"), looks := false }, kinds := [], alts := [], laidByText := true, laidKinds := [.data, .data, .data], laidTests := true, laidLooks := .later }
def ShapeMakesCardSaid : Prop := Claim7.holds Tryd.pinned (.plain (OpenSpec.ofChange shapeMakesSpec)) shapeMakesCard

/-- THE TIED CARD OF 'sakialaw08.ShapeRanges'. -/
def shapeRangesCard : Claim7 := { stood := { row := shapeRangesRow, standIns := [], harness := (true, "c2cb14ebc5fe0f681205c34b6b6a810637b8fa42ac8f901ee1c0f18793fdb8e5"), looks := false }, kinds := [], alts := [], laidByText := true, laidKinds := [.data, .data, .data], laidTests := true, laidLooks := .later }
def ShapeRangesCardSaid : Prop := Claim7.holds Tryd.pinned (.plain (OpenSpec.ofChange shapeRangesSpec)) shapeRangesCard

/-- THE TIED CARD OF 'sakialaw08.ShapePlaces'. -/
def shapePlacesCard : Claim7 := { stood := { row := shapePlacesRow, standIns := [], harness := (true, "c2cb14ebc5fe0f681205c34b6b6a810637b8fa42ac8f901ee1c0f18793fdb8e5"), looks := false }, kinds := [], alts := [], laidByText := true, laidKinds := [.data, .data, .data], laidTests := true, laidLooks := .later }
def ShapePlacesCardSaid : Prop := Claim7.holds Tryd.pinned (.plain (OpenSpec.ofChange shapePlacesSpec)) shapePlacesCard

/-- THE TIED CARD OF 'sakialaw08.ShapeNames'. -/
def shapeNamesCard : Claim7 := { stood := { row := shapeNamesRow, standIns := [], harness := (true, "c2cb14ebc5fe0f681205c34b6b6a810637b8fa42ac8f901ee1c0f18793fdb8e5"), looks := false }, kinds := [], alts := [], laidByText := true, laidKinds := [.data, .data, .data], laidTests := true, laidLooks := .later }
def ShapeNamesCardSaid : Prop := Claim7.holds Tryd.pinned (.plain (OpenSpec.ofChange shapeNamesSpec)) shapeNamesCard

/-- THE TIED CARD OF 'sakialaw08.ShapeNil'. -/
def shapeNilCard : Claim7 := { stood := { row := shapeNilRow, standIns := [], harness := (true, "c2cb14ebc5fe0f681205c34b6b6a810637b8fa42ac8f901ee1c0f18793fdb8e5"), looks := false }, kinds := [], alts := [], laidByText := true, laidKinds := [.data, .data, .data], laidTests := true, laidLooks := .later }
def ShapeNilCardSaid : Prop := Claim7.holds Tryd.pinned (.plain (OpenSpec.ofChange shapeNilSpec)) shapeNilCard

/-- THE SECOND FORM's CARD OF 'sakialaw08.ShapeMakes'. -/
def shapeMakesUptoCard : Claim7 := { stood := { row := shapeMakesUptoRow, standIns := [], harness := (true, "c2cb14ebc5fe0f681205c34b6b6a810637b8fa42ac8f901ee1c0f18793fdb8e5"), looks := false }, kinds := [], alts := [], laidByText := true, laidKinds := [.data, .data, .data], laidTests := true, laidLooks := .later }
def ShapeMakesUptoCardSaid : Prop := Claim7.holds Tryd.pinned (.plain (OpenSpec.upto shapeMakesSpec)) shapeMakesUptoCard

/-- THE SECOND FORM's CARD OF 'sakialaw08.ShapeRanges'. -/
def shapeRangesUptoCard : Claim7 := { stood := { row := shapeRangesUptoRow, standIns := [], harness := (true, "c2cb14ebc5fe0f681205c34b6b6a810637b8fa42ac8f901ee1c0f18793fdb8e5"), looks := false }, kinds := [], alts := [], laidByText := true, laidKinds := [.data, .data, .data], laidTests := true, laidLooks := .later }
def ShapeRangesUptoCardSaid : Prop := Claim7.holds Tryd.pinned (.plain (OpenSpec.upto shapeRangesSpec)) shapeRangesUptoCard

/-- THE SECOND FORM's CARD OF 'sakialaw08.ShapePlaces'. -/
def shapePlacesUptoCard : Claim7 := { stood := { row := shapePlacesUptoRow, standIns := [], harness := (true, "c2cb14ebc5fe0f681205c34b6b6a810637b8fa42ac8f901ee1c0f18793fdb8e5"), looks := false }, kinds := [], alts := [], laidByText := true, laidKinds := [.data, .data, .data], laidTests := true, laidLooks := .later }
def ShapePlacesUptoCardSaid : Prop := Claim7.holds Tryd.pinned (.plain (OpenSpec.upto shapePlacesSpec)) shapePlacesUptoCard

/-- THE SECOND FORM's CARD OF 'sakialaw08.ShapeNames'. -/
def shapeNamesUptoCard : Claim7 := { stood := { row := shapeNamesUptoRow, standIns := [], harness := (true, "c2cb14ebc5fe0f681205c34b6b6a810637b8fa42ac8f901ee1c0f18793fdb8e5"), looks := false }, kinds := [], alts := [], laidByText := true, laidKinds := [.data, .data, .data], laidTests := true, laidLooks := .later }
def ShapeNamesUptoCardSaid : Prop := Claim7.holds Tryd.pinned (.plain (OpenSpec.upto shapeNamesSpec)) shapeNamesUptoCard

/-- THE SECOND FORM's CARD OF 'sakialaw08.ShapeNil'. -/
def shapeNilUptoCard : Claim7 := { stood := { row := shapeNilUptoRow, standIns := [], harness := (true, "c2cb14ebc5fe0f681205c34b6b6a810637b8fa42ac8f901ee1c0f18793fdb8e5"), looks := false }, kinds := [], alts := [], laidByText := true, laidKinds := [.data, .data, .data], laidTests := true, laidLooks := .later }
def ShapeNilUptoCardSaid : Prop := Claim7.holds Tryd.pinned (.plain (OpenSpec.upto shapeNilSpec)) shapeNilUptoCard
end Rows
end Go.Proofs.YtdnaildhcnekfaaDoor
