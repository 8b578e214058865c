/-
  DERIVED. GIVEN WITH THE SEED: THE CARDS: each row of YtmobnlofbopbeaaGreatDoorRows.lean that lists a variable, with what it lists TIED to the program's text (the seventh form; the later family's looks); each row that meets fmt, with fmt's text TOLD by the authors' own Lean function (tested against real Go, not proved from fmt's source: count such statements apart). THE CARD IS WHAT COUNTS. Prove the row's statement (the work); the ties are given (YtmobnlofbopbeaaGreatDoorTie.lean); close each card by the builder's one call (the guide's Derived/Test/ToyasCard.lean, 'card_holds'). Laid BY PROGRAM, IN A SANDBOX (cutbox-door.mjs). By AI agents, Wed Nov 11 2026. No macro, syntax, notation, axiom, sorry.
-/
import Derived.Test.YtmobnlofbopbeaaGreatDoorRows
import GoSem.ClaimSeven
namespace Go.Proofs.YtmobnlofbopbeaaGreatDoor
namespace Rows

/-- THE TIED CARD OF 'morainelaw03.ValTells'. -/
def valTellsCard : Claim7 := { stood := { row := valTellsRow, standIns := [], harness := (true, "623537f070cfedc6413dd9cf522795658e8b89af2f3c8d9671d0933b4822fa9e"), looks := true }, kinds := [], alts := [], laidByText := true, laidKinds := [.data, .data, .data, .data, .sentinel, .pinned], laidTests := true, laidLooks := .later }
def ValTellsCardSaid : Prop := Claim7.holds Tryz.pinned (.plain (OpenSpec.ofChange valTellsSpec)) valTellsCard

/-- THE TIED CARD OF 'morainelaw03.ValWritten'. -/
def valWrittenCard : Claim7 := { stood := { row := valWrittenRow, standIns := [], harness := (true, "623537f070cfedc6413dd9cf522795658e8b89af2f3c8d9671d0933b4822fa9e"), looks := true }, kinds := [], alts := [], laidByText := true, laidKinds := [.data, .data, .data, .data, .sentinel, .pinned], laidTests := true, laidLooks := .later }
def ValWrittenCardSaid : Prop := Claim7.holds Tryz.pinned (.plain (OpenSpec.ofChange valWrittenSpec)) valWrittenCard

/-- THE TIED CARD OF 'morainelaw03.ValRefs'. -/
def valRefsCard : Claim7 := { stood := { row := valRefsRow, standIns := [], harness := (true, "623537f070cfedc6413dd9cf522795658e8b89af2f3c8d9671d0933b4822fa9e"), looks := true }, kinds := [], alts := [], laidByText := true, laidKinds := [.data, .data, .data, .data, .sentinel, .pinned], laidTests := true, laidLooks := .later }
def ValRefsCardSaid : Prop := Claim7.holds Tryz.pinned (.plain (OpenSpec.ofChange valRefsSpec)) valRefsCard

/-- THE TIED CARD OF 'morainelaw04.ClassValues'. -/
def classValuesCard : Claim7 := { stood := { row := classValuesRow, standIns := [], harness := (true, "623537f070cfedc6413dd9cf522795658e8b89af2f3c8d9671d0933b4822fa9e"), looks := true }, kinds := [], alts := [], laidByText := true, laidKinds := [.data, .data, .data, .data, .sentinel, .pinned], laidTests := true, laidLooks := .later }
def ClassValuesCardSaid : Prop := Claim7.holds Tryz.pinned (.plain (OpenSpec.ofChange classValuesSpec)) classValuesCard

/-- THE SECOND FORM's CARD OF 'morainelaw03.ValTells'. -/
def valTellsUptoCard : Claim7 := { stood := { row := valTellsUptoRow, standIns := [], harness := (true, "623537f070cfedc6413dd9cf522795658e8b89af2f3c8d9671d0933b4822fa9e"), looks := true }, kinds := [], alts := [], laidByText := true, laidKinds := [.data, .data, .data, .data, .sentinel, .pinned], laidTests := true, laidLooks := .later }
def ValTellsUptoCardSaid : Prop := Claim7.holds Tryz.pinned (.plain (OpenSpec.upto valTellsSpec)) valTellsUptoCard

/-- THE SECOND FORM's CARD OF 'morainelaw03.ValWritten'. -/
def valWrittenUptoCard : Claim7 := { stood := { row := valWrittenUptoRow, standIns := [], harness := (true, "623537f070cfedc6413dd9cf522795658e8b89af2f3c8d9671d0933b4822fa9e"), looks := true }, kinds := [], alts := [], laidByText := true, laidKinds := [.data, .data, .data, .data, .sentinel, .pinned], laidTests := true, laidLooks := .later }
def ValWrittenUptoCardSaid : Prop := Claim7.holds Tryz.pinned (.plain (OpenSpec.upto valWrittenSpec)) valWrittenUptoCard

/-- THE SECOND FORM's CARD OF 'morainelaw03.ValRefs'. -/
def valRefsUptoCard : Claim7 := { stood := { row := valRefsUptoRow, standIns := [], harness := (true, "623537f070cfedc6413dd9cf522795658e8b89af2f3c8d9671d0933b4822fa9e"), looks := true }, kinds := [], alts := [], laidByText := true, laidKinds := [.data, .data, .data, .data, .sentinel, .pinned], laidTests := true, laidLooks := .later }
def ValRefsUptoCardSaid : Prop := Claim7.holds Tryz.pinned (.plain (OpenSpec.upto valRefsSpec)) valRefsUptoCard

/-- THE SECOND FORM's CARD OF 'morainelaw04.ClassValues'. -/
def classValuesUptoCard : Claim7 := { stood := { row := classValuesUptoRow, standIns := [], harness := (true, "623537f070cfedc6413dd9cf522795658e8b89af2f3c8d9671d0933b4822fa9e"), looks := true }, kinds := [], alts := [], laidByText := true, laidKinds := [.data, .data, .data, .data, .sentinel, .pinned], laidTests := true, laidLooks := .later }
def ClassValuesUptoCardSaid : Prop := Claim7.holds Tryz.pinned (.plain (OpenSpec.upto classValuesSpec)) classValuesUptoCard
end Rows
end Go.Proofs.YtmobnlofbopbeaaGreatDoor
