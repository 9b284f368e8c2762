/-
  DERIVED. GIVEN WITH THE SEED: THE CARDS: each row of YtlhmimbooampdaaGreatDoorRows.lean that lists a variable, with what it lists TIED to the program's text (the seventh form; the later family's looks); each row that meets fmt, with fmt's text TOLD by the authors' own Lean function (tested against real Go, not proved from fmt's source: count such statements apart). THE CARD IS WHAT COUNTS. Prove the row's statement (the work); the ties are given (YtlhmimbooampdaaGreatDoorTie.lean); close each card by the builder's one call (the guide's Derived/Test/ToyasCard.lean, 'card_holds'). Laid BY PROGRAM, IN A SANDBOX (cutbox-door.mjs). By AI agents, Wed Nov 11 2026. No macro, syntax, notation, axiom, sorry.
-/
import Derived.Test.YtlhmimbooampdaaGreatDoorRows
import GoSem.ClaimSeven
namespace Go.Proofs.YtlhmimbooampdaaGreatDoor
namespace Rows

/-- THE TIED CARD OF 'insolvencylaw2.RationalSum'. -/
def rationalSumCard : Claim7 := { stood := { row := rationalSumRow, standIns := [], harness := (true, "d5fc8b0a091cdada0fb83d334354e99fbdf7b9981efb58ba15fe368e10064b70"), looks := false }, kinds := [], alts := [], laidByText := true, laidKinds := [.data, .pinned], laidTests := true, laidLooks := .later }
def RationalSumCardSaid : Prop := Claim7.holds Tryz.pinned (.plain (OpenSpec.ofChange rationalSumSpec)) rationalSumCard

/-- THE TIED CARD OF 'insolvencylaw2.RationalForms'. -/
def rationalFormsCard : Claim7 := { stood := { row := rationalFormsRow, standIns := [], harness := (true, "d5fc8b0a091cdada0fb83d334354e99fbdf7b9981efb58ba15fe368e10064b70"), looks := false }, kinds := [], alts := [], laidByText := true, laidKinds := [.data, .pinned], laidTests := true, laidLooks := .later }
def RationalFormsCardSaid : Prop := Claim7.holds Tryz.pinned (.plain (OpenSpec.ofChange rationalFormsSpec)) rationalFormsCard

/-- THE TIED CARD OF 'insolvencylaw2.RationalTruncated'. -/
def rationalTruncatedCard : Claim7 := { stood := { row := rationalTruncatedRow, standIns := [], harness := (true, "d5fc8b0a091cdada0fb83d334354e99fbdf7b9981efb58ba15fe368e10064b70"), looks := false }, kinds := [], alts := [], laidByText := true, laidKinds := [.data, .pinned], laidTests := true, laidLooks := .later }
def RationalTruncatedCardSaid : Prop := Claim7.holds Tryz.pinned (.plain (OpenSpec.ofChange rationalTruncatedSpec)) rationalTruncatedCard

/-- THE TIED CARD OF 'insolvencylaw2.RationalField'. -/
def rationalFieldCard : Claim7 := { stood := { row := rationalFieldRow, standIns := [], harness := (true, "d5fc8b0a091cdada0fb83d334354e99fbdf7b9981efb58ba15fe368e10064b70"), looks := false }, kinds := [], alts := [], laidByText := true, laidKinds := [.data, .pinned], laidTests := true, laidLooks := .later }
def RationalFieldCardSaid : Prop := Claim7.holds Tryz.pinned (.plain (OpenSpec.ofChange rationalFieldSpec)) rationalFieldCard

/-- THE SECOND FORM's CARD OF 'insolvencylaw2.RationalSum'. -/
def rationalSumUptoCard : Claim7 := { stood := { row := rationalSumUptoRow, standIns := [], harness := (true, "d5fc8b0a091cdada0fb83d334354e99fbdf7b9981efb58ba15fe368e10064b70"), looks := false }, kinds := [], alts := [], laidByText := true, laidKinds := [.data, .pinned], laidTests := true, laidLooks := .later }
def RationalSumUptoCardSaid : Prop := Claim7.holds Tryz.pinned (.plain (OpenSpec.upto rationalSumSpec)) rationalSumUptoCard

/-- THE SECOND FORM's CARD OF 'insolvencylaw2.RationalForms'. -/
def rationalFormsUptoCard : Claim7 := { stood := { row := rationalFormsUptoRow, standIns := [], harness := (true, "d5fc8b0a091cdada0fb83d334354e99fbdf7b9981efb58ba15fe368e10064b70"), looks := false }, kinds := [], alts := [], laidByText := true, laidKinds := [.data, .pinned], laidTests := true, laidLooks := .later }
def RationalFormsUptoCardSaid : Prop := Claim7.holds Tryz.pinned (.plain (OpenSpec.upto rationalFormsSpec)) rationalFormsUptoCard

/-- THE SECOND FORM's CARD OF 'insolvencylaw2.RationalTruncated'. -/
def rationalTruncatedUptoCard : Claim7 := { stood := { row := rationalTruncatedUptoRow, standIns := [], harness := (true, "d5fc8b0a091cdada0fb83d334354e99fbdf7b9981efb58ba15fe368e10064b70"), looks := false }, kinds := [], alts := [], laidByText := true, laidKinds := [.data, .pinned], laidTests := true, laidLooks := .later }
def RationalTruncatedUptoCardSaid : Prop := Claim7.holds Tryz.pinned (.plain (OpenSpec.upto rationalTruncatedSpec)) rationalTruncatedUptoCard

/-- THE SECOND FORM's CARD OF 'insolvencylaw2.RationalField'. -/
def rationalFieldUptoCard : Claim7 := { stood := { row := rationalFieldUptoRow, standIns := [], harness := (true, "d5fc8b0a091cdada0fb83d334354e99fbdf7b9981efb58ba15fe368e10064b70"), looks := false }, kinds := [], alts := [], laidByText := true, laidKinds := [.data, .pinned], laidTests := true, laidLooks := .later }
def RationalFieldUptoCardSaid : Prop := Claim7.holds Tryz.pinned (.plain (OpenSpec.upto rationalFieldSpec)) rationalFieldUptoCard
end Rows
end Go.Proofs.YtlhmimbooampdaaGreatDoor
