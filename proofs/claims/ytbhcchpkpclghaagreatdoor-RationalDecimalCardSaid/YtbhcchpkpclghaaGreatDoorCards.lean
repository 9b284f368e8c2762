/-
  DERIVED. GIVEN WITH THE SEED: THE CARDS: each row of YtbhcchpkpclghaaGreatDoorRows.lean that lists a variable, with what it lists TIED to the program's text (the seventh form; the later family's looks); each row that meets fmt, with fmt's text TOLD by the authors' own Lean function (tested against real Go, not proved from fmt's source: count such statements apart). THE CARD IS WHAT COUNTS. Prove the row's statement (the work); the ties are given (YtbhcchpkpclghaaGreatDoorTie.lean); close each card by the builder's one call (the guide's Derived/Test/ToyasCard.lean, 'card_holds'). Laid BY PROGRAM, IN A SANDBOX (cutbox-door.mjs). By AI agents, Wed Nov 11 2026. No macro, syntax, notation, axiom, sorry.
-/
import Derived.Test.YtbhcchpkpclghaaGreatDoorRows
import GoSem.ClaimSeven
namespace Go.Proofs.YtbhcchpkpclghaaGreatDoor
namespace Rows

/-- THE TIED CARD OF 'insolvencylaw2.RationalDecimal'. -/
def rationalDecimalCard : Claim7 := { stood := { row := rationalDecimalRow, standIns := [], harness := (true, "52225bdf48bd2d23d200ff33b3a1ca137ba2927a20d74f8d81881231464eae92"), looks := false }, kinds := [], alts := [], laidByText := true, laidKinds := [.data, .pinned], laidTests := true, laidLooks := .later }
def RationalDecimalCardSaid : Prop := Claim7.holds Tryz.pinned (.plain (OpenSpec.ofChange rationalDecimalSpec)) rationalDecimalCard

/-- THE TIED CARD OF 'insolvencylaw2.RationalField'. -/
def rationalFieldCard : Claim7 := { stood := { row := rationalFieldRow, standIns := [], harness := (true, "52225bdf48bd2d23d200ff33b3a1ca137ba2927a20d74f8d81881231464eae92"), looks := false }, kinds := [], alts := [], laidByText := true, laidKinds := [.data, .pinned], laidTests := true, laidLooks := .later }
def RationalFieldCardSaid : Prop := Claim7.holds Tryz.pinned (.plain (OpenSpec.ofChange rationalFieldSpec)) rationalFieldCard

/-- THE TIED CARD OF 'insolvencylaw2.RationalTruncated'. -/
def rationalTruncatedCard : Claim7 := { stood := { row := rationalTruncatedRow, standIns := [], harness := (true, "52225bdf48bd2d23d200ff33b3a1ca137ba2927a20d74f8d81881231464eae92"), looks := false }, kinds := [], alts := [], laidByText := true, laidKinds := [.data, .pinned], laidTests := true, laidLooks := .later }
def RationalTruncatedCardSaid : Prop := Claim7.holds Tryz.pinned (.plain (OpenSpec.ofChange rationalTruncatedSpec)) rationalTruncatedCard

/-- THE TIED CARD OF 'insolvencylaw2.RationalForms'. -/
def rationalFormsCard : Claim7 := { stood := { row := rationalFormsRow, standIns := [], harness := (true, "52225bdf48bd2d23d200ff33b3a1ca137ba2927a20d74f8d81881231464eae92"), looks := false }, kinds := [], alts := [], laidByText := true, laidKinds := [.data, .pinned], laidTests := true, laidLooks := .later }
def RationalFormsCardSaid : Prop := Claim7.holds Tryz.pinned (.plain (OpenSpec.ofChange rationalFormsSpec)) rationalFormsCard

/-- THE TIED CARD OF 'insolvencylaw2.RationalSum'. -/
def rationalSumCard : Claim7 := { stood := { row := rationalSumRow, standIns := [], harness := (true, "52225bdf48bd2d23d200ff33b3a1ca137ba2927a20d74f8d81881231464eae92"), looks := false }, kinds := [], alts := [], laidByText := true, laidKinds := [.data, .pinned], laidTests := true, laidLooks := .later }
def RationalSumCardSaid : Prop := Claim7.holds Tryz.pinned (.plain (OpenSpec.ofChange rationalSumSpec)) rationalSumCard

/-- THE SECOND FORM's CARD OF 'insolvencylaw2.RationalDecimal'. -/
def rationalDecimalUptoCard : Claim7 := { stood := { row := rationalDecimalUptoRow, standIns := [], harness := (true, "52225bdf48bd2d23d200ff33b3a1ca137ba2927a20d74f8d81881231464eae92"), looks := false }, kinds := [], alts := [], laidByText := true, laidKinds := [.data, .pinned], laidTests := true, laidLooks := .later }
def RationalDecimalUptoCardSaid : Prop := Claim7.holds Tryz.pinned (.plain (OpenSpec.upto rationalDecimalSpec)) rationalDecimalUptoCard

/-- THE SECOND FORM's CARD OF 'insolvencylaw2.RationalField'. -/
def rationalFieldUptoCard : Claim7 := { stood := { row := rationalFieldUptoRow, standIns := [], harness := (true, "52225bdf48bd2d23d200ff33b3a1ca137ba2927a20d74f8d81881231464eae92"), looks := false }, kinds := [], alts := [], laidByText := true, laidKinds := [.data, .pinned], laidTests := true, laidLooks := .later }
def RationalFieldUptoCardSaid : Prop := Claim7.holds Tryz.pinned (.plain (OpenSpec.upto rationalFieldSpec)) rationalFieldUptoCard

/-- THE SECOND FORM's CARD OF 'insolvencylaw2.RationalTruncated'. -/
def rationalTruncatedUptoCard : Claim7 := { stood := { row := rationalTruncatedUptoRow, standIns := [], harness := (true, "52225bdf48bd2d23d200ff33b3a1ca137ba2927a20d74f8d81881231464eae92"), looks := false }, kinds := [], alts := [], laidByText := true, laidKinds := [.data, .pinned], laidTests := true, laidLooks := .later }
def RationalTruncatedUptoCardSaid : Prop := Claim7.holds Tryz.pinned (.plain (OpenSpec.upto rationalTruncatedSpec)) rationalTruncatedUptoCard

/-- THE SECOND FORM's CARD OF 'insolvencylaw2.RationalForms'. -/
def rationalFormsUptoCard : Claim7 := { stood := { row := rationalFormsUptoRow, standIns := [], harness := (true, "52225bdf48bd2d23d200ff33b3a1ca137ba2927a20d74f8d81881231464eae92"), looks := false }, kinds := [], alts := [], laidByText := true, laidKinds := [.data, .pinned], laidTests := true, laidLooks := .later }
def RationalFormsUptoCardSaid : Prop := Claim7.holds Tryz.pinned (.plain (OpenSpec.upto rationalFormsSpec)) rationalFormsUptoCard

/-- THE SECOND FORM's CARD OF 'insolvencylaw2.RationalSum'. -/
def rationalSumUptoCard : Claim7 := { stood := { row := rationalSumUptoRow, standIns := [], harness := (true, "52225bdf48bd2d23d200ff33b3a1ca137ba2927a20d74f8d81881231464eae92"), looks := false }, kinds := [], alts := [], laidByText := true, laidKinds := [.data, .pinned], laidTests := true, laidLooks := .later }
def RationalSumUptoCardSaid : Prop := Claim7.holds Tryz.pinned (.plain (OpenSpec.upto rationalSumSpec)) rationalSumUptoCard
end Rows
end Go.Proofs.YtbhcchpkpclghaaGreatDoor
