/-
  DERIVED. GIVEN WITH THE SEED: THE CARDS: each row of YtplhhpcjcpnegaaDoorRows.lean that lists a variable, with what it lists TIED to the program's text (the seventh form; the later family's looks); each row that meets fmt, with fmt's text TOLD by the authors' own Lean function (tested against real Go, not proved from fmt's source: count such statements apart). THE CARD IS WHAT COUNTS. Prove the row's statement (the work); the ties are given (YtplhhpcjcpnegaaDoorTie.lean); close each card by the builder's one call (the guide's Derived/Test/ToyasCard.lean, 'card_holds'). Laid BY PROGRAM, IN A SANDBOX (cutbox-door.mjs). By AI agents, Wed Nov 11 2026. No macro, syntax, notation, axiom, sorry.
-/
import Derived.Test.YtplhhpcjcpnegaaDoorRows
import GoSem.ClaimSeven
namespace Go.Proofs.YtplhhpcjcpnegaaDoor
namespace Rows

/-- THE TIED CARD OF 'morainelaw03.ValBack'. -/
def valBackCard : Claim7 := { stood := { row := valBackRow, standIns := [], harness := (true, "4b55054486dd8d6ab4ceff89b84cf9dfb2e5074dddbe529d532f10cf6ad9798d"), looks := true }, kinds := [], alts := [], laidByText := true, laidKinds := [.data, .sentinel, .pinned], laidTests := true, laidLooks := .later }
def ValBackCardSaid : Prop := Claim7.holds Tryd.pinned (.plain (OpenSpec.ofChange valBackSpec)) valBackCard

/-- THE TIED CARD OF 'morainelaw03.ValOrder'. -/
def valOrderCard : Claim7 := { stood := { row := valOrderRow, standIns := [], harness := (true, "4b55054486dd8d6ab4ceff89b84cf9dfb2e5074dddbe529d532f10cf6ad9798d"), looks := true }, kinds := [], alts := [], laidByText := true, laidKinds := [.data, .sentinel, .pinned], laidTests := true, laidLooks := .later }
def ValOrderCardSaid : Prop := Claim7.holds Tryd.pinned (.plain (OpenSpec.ofChange valOrderSpec)) valOrderCard

/-- THE TIED CARD OF 'morainelaw03.ValCut'. -/
def valCutCard : Claim7 := { stood := { row := valCutRow, standIns := [], harness := (true, "4b55054486dd8d6ab4ceff89b84cf9dfb2e5074dddbe529d532f10cf6ad9798d"), looks := true }, kinds := [], alts := [], laidByText := true, laidKinds := [.data, .sentinel, .pinned], laidTests := true, laidLooks := .later }
def ValCutCardSaid : Prop := Claim7.holds Tryd.pinned (.plain (OpenSpec.ofChange valCutSpec)) valCutCard

/-- THE SECOND FORM's CARD OF 'morainelaw03.ValBack'. -/
def valBackUptoCard : Claim7 := { stood := { row := valBackUptoRow, standIns := [], harness := (true, "4b55054486dd8d6ab4ceff89b84cf9dfb2e5074dddbe529d532f10cf6ad9798d"), looks := true }, kinds := [], alts := [], laidByText := true, laidKinds := [.data, .sentinel, .pinned], laidTests := true, laidLooks := .later }
def ValBackUptoCardSaid : Prop := Claim7.holds Tryd.pinned (.plain (OpenSpec.upto valBackSpec)) valBackUptoCard

/-- THE SECOND FORM's CARD OF 'morainelaw03.ValOrder'. -/
def valOrderUptoCard : Claim7 := { stood := { row := valOrderUptoRow, standIns := [], harness := (true, "4b55054486dd8d6ab4ceff89b84cf9dfb2e5074dddbe529d532f10cf6ad9798d"), looks := true }, kinds := [], alts := [], laidByText := true, laidKinds := [.data, .sentinel, .pinned], laidTests := true, laidLooks := .later }
def ValOrderUptoCardSaid : Prop := Claim7.holds Tryd.pinned (.plain (OpenSpec.upto valOrderSpec)) valOrderUptoCard

/-- THE SECOND FORM's CARD OF 'morainelaw03.ValCut'. -/
def valCutUptoCard : Claim7 := { stood := { row := valCutUptoRow, standIns := [], harness := (true, "4b55054486dd8d6ab4ceff89b84cf9dfb2e5074dddbe529d532f10cf6ad9798d"), looks := true }, kinds := [], alts := [], laidByText := true, laidKinds := [.data, .sentinel, .pinned], laidTests := true, laidLooks := .later }
def ValCutUptoCardSaid : Prop := Claim7.holds Tryd.pinned (.plain (OpenSpec.upto valCutSpec)) valCutUptoCard
end Rows
end Go.Proofs.YtplhhpcjcpnegaaDoor
