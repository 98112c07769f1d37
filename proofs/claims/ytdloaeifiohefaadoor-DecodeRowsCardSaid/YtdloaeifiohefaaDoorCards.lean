/-
  DERIVED. GIVEN WITH THE SEED: THE CARDS: each row of YtdloaeifiohefaaDoorRows.lean that lists a variable, with what it lists TIED to the program's text (the seventh form; the later family's looks); each row that meets fmt, with fmt's text TOLD by the authors' own Lean function (tested against real Go, not proved from fmt's source: count such statements apart). THE CARD IS WHAT COUNTS. Prove the row's statement (the work); the ties are given (YtdloaeifiohefaaDoorTie.lean); close each card by the builder's one call (the guide's Derived/Test/ToyasCard.lean, 'card_holds'). Laid BY PROGRAM, IN A SANDBOX (cutbox-door.mjs). By AI agents, Wed Nov 11 2026. No macro, syntax, notation, axiom, sorry.
-/
import Derived.Test.YtdloaeifiohefaaDoorRows
import GoSem.ClaimSeven
namespace Go.Proofs.YtdloaeifiohefaaDoor
namespace Rows

/-- THE TIED CARD OF 'dioptralaw11.DecodeTells'. -/
def decodeTellsCard : Claim7 := { stood := { row := decodeTellsRow, standIns := [], harness := (true, "504cb00a9f8081becea631f99a3c27def0396959ab9f004d12aaa26443621ed3"), looks := false }, kinds := [], alts := [], laidByText := true, laidKinds := [.data, .data], laidTests := true, laidLooks := .later }
def DecodeTellsCardSaid : Prop := Claim7.holds Tryd.pinned (.plain (OpenSpec.ofChange decodeTellsSpec)) decodeTellsCard

/-- THE TIED CARD OF 'dioptralaw11.DecodeEncodes'. -/
def decodeEncodesCard : Claim7 := { stood := { row := decodeEncodesRow, standIns := [], harness := (true, "504cb00a9f8081becea631f99a3c27def0396959ab9f004d12aaa26443621ed3"), looks := false }, kinds := [], alts := [], laidByText := true, laidKinds := [.data, .data], laidTests := true, laidLooks := .later }
def DecodeEncodesCardSaid : Prop := Claim7.holds Tryd.pinned (.plain (OpenSpec.ofChange decodeEncodesSpec)) decodeEncodesCard

/-- THE TIED CARD OF 'dioptralaw11.DecodeBack'. -/
def decodeBackCard : Claim7 := { stood := { row := decodeBackRow, standIns := [], harness := (true, "504cb00a9f8081becea631f99a3c27def0396959ab9f004d12aaa26443621ed3"), looks := false }, kinds := [], alts := [], laidByText := true, laidKinds := [.data, .data], laidTests := true, laidLooks := .later }
def DecodeBackCardSaid : Prop := Claim7.holds Tryd.pinned (.plain (OpenSpec.ofChange decodeBackSpec)) decodeBackCard

/-- THE TIED CARD OF 'dioptralaw11.DecodeFields'. -/
def decodeFieldsCard : Claim7 := { stood := { row := decodeFieldsRow, standIns := [], harness := (true, "504cb00a9f8081becea631f99a3c27def0396959ab9f004d12aaa26443621ed3"), looks := false }, kinds := [], alts := [], laidByText := true, laidKinds := [.data, .data], laidTests := true, laidLooks := .later }
def DecodeFieldsCardSaid : Prop := Claim7.holds Tryd.pinned (.plain (OpenSpec.ofChange decodeFieldsSpec)) decodeFieldsCard

/-- THE TIED CARD OF 'dioptralaw11.DecodeRows'. -/
def decodeRowsCard : Claim7 := { stood := { row := decodeRowsRow, standIns := [], harness := (true, "504cb00a9f8081becea631f99a3c27def0396959ab9f004d12aaa26443621ed3"), looks := false }, kinds := [], alts := [], laidByText := true, laidKinds := [.data, .data], laidTests := true, laidLooks := .later }
def DecodeRowsCardSaid : Prop := Claim7.holds Tryd.pinned (.plain (OpenSpec.ofChange decodeRowsSpec)) decodeRowsCard

/-- THE TIED CARD OF 'dioptralaw11.DecodeRegisters'. -/
def decodeRegistersCard : Claim7 := { stood := { row := decodeRegistersRow, standIns := [], harness := (true, "504cb00a9f8081becea631f99a3c27def0396959ab9f004d12aaa26443621ed3"), looks := false }, kinds := [], alts := [], laidByText := true, laidKinds := [.data, .data], laidTests := true, laidLooks := .later }
def DecodeRegistersCardSaid : Prop := Claim7.holds Tryd.pinned (.plain (OpenSpec.ofChange decodeRegistersSpec)) decodeRegistersCard

/-- THE SECOND FORM's CARD OF 'dioptralaw11.DecodeTells'. -/
def decodeTellsUptoCard : Claim7 := { stood := { row := decodeTellsUptoRow, standIns := [], harness := (true, "504cb00a9f8081becea631f99a3c27def0396959ab9f004d12aaa26443621ed3"), looks := false }, kinds := [], alts := [], laidByText := true, laidKinds := [.data, .data], laidTests := true, laidLooks := .later }
def DecodeTellsUptoCardSaid : Prop := Claim7.holds Tryd.pinned (.plain (OpenSpec.upto decodeTellsSpec)) decodeTellsUptoCard

/-- THE SECOND FORM's CARD OF 'dioptralaw11.DecodeEncodes'. -/
def decodeEncodesUptoCard : Claim7 := { stood := { row := decodeEncodesUptoRow, standIns := [], harness := (true, "504cb00a9f8081becea631f99a3c27def0396959ab9f004d12aaa26443621ed3"), looks := false }, kinds := [], alts := [], laidByText := true, laidKinds := [.data, .data], laidTests := true, laidLooks := .later }
def DecodeEncodesUptoCardSaid : Prop := Claim7.holds Tryd.pinned (.plain (OpenSpec.upto decodeEncodesSpec)) decodeEncodesUptoCard

/-- THE SECOND FORM's CARD OF 'dioptralaw11.DecodeBack'. -/
def decodeBackUptoCard : Claim7 := { stood := { row := decodeBackUptoRow, standIns := [], harness := (true, "504cb00a9f8081becea631f99a3c27def0396959ab9f004d12aaa26443621ed3"), looks := false }, kinds := [], alts := [], laidByText := true, laidKinds := [.data, .data], laidTests := true, laidLooks := .later }
def DecodeBackUptoCardSaid : Prop := Claim7.holds Tryd.pinned (.plain (OpenSpec.upto decodeBackSpec)) decodeBackUptoCard

/-- THE SECOND FORM's CARD OF 'dioptralaw11.DecodeFields'. -/
def decodeFieldsUptoCard : Claim7 := { stood := { row := decodeFieldsUptoRow, standIns := [], harness := (true, "504cb00a9f8081becea631f99a3c27def0396959ab9f004d12aaa26443621ed3"), looks := false }, kinds := [], alts := [], laidByText := true, laidKinds := [.data, .data], laidTests := true, laidLooks := .later }
def DecodeFieldsUptoCardSaid : Prop := Claim7.holds Tryd.pinned (.plain (OpenSpec.upto decodeFieldsSpec)) decodeFieldsUptoCard

/-- THE SECOND FORM's CARD OF 'dioptralaw11.DecodeRows'. -/
def decodeRowsUptoCard : Claim7 := { stood := { row := decodeRowsUptoRow, standIns := [], harness := (true, "504cb00a9f8081becea631f99a3c27def0396959ab9f004d12aaa26443621ed3"), looks := false }, kinds := [], alts := [], laidByText := true, laidKinds := [.data, .data], laidTests := true, laidLooks := .later }
def DecodeRowsUptoCardSaid : Prop := Claim7.holds Tryd.pinned (.plain (OpenSpec.upto decodeRowsSpec)) decodeRowsUptoCard

/-- THE SECOND FORM's CARD OF 'dioptralaw11.DecodeRegisters'. -/
def decodeRegistersUptoCard : Claim7 := { stood := { row := decodeRegistersUptoRow, standIns := [], harness := (true, "504cb00a9f8081becea631f99a3c27def0396959ab9f004d12aaa26443621ed3"), looks := false }, kinds := [], alts := [], laidByText := true, laidKinds := [.data, .data], laidTests := true, laidLooks := .later }
def DecodeRegistersUptoCardSaid : Prop := Claim7.holds Tryd.pinned (.plain (OpenSpec.upto decodeRegistersSpec)) decodeRegistersUptoCard
end Rows
end Go.Proofs.YtdloaeifiohefaaDoor
