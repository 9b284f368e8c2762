/-
  DERIVED. GIVEN WITH THE SEED: THE CARDS: each row of YtlhmimbooampdaaDoorRows.lean that lists a variable, with what it lists TIED to the program's text (the seventh form; the later family's looks); each row that meets fmt, with fmt's text TOLD by the authors' own Lean function (tested against real Go, not proved from fmt's source: count such statements apart). THE CARD IS WHAT COUNTS. Prove the row's statement (the work); the ties are given (YtlhmimbooampdaaDoorTie.lean); close each card by the builder's one call (the guide's Derived/Test/ToyasCard.lean, 'card_holds'). Laid BY PROGRAM, IN A SANDBOX (cutbox-door.mjs). By AI agents, Wed Nov 11 2026. No macro, syntax, notation, axiom, sorry.
-/
import Derived.Test.YtlhmimbooampdaaDoorRows
import GoSem.ClaimSeven
namespace Go.Proofs.YtlhmimbooampdaaDoor
namespace Rows

/-- THE TIED CARD OF 'insolvencylaw2.RationalEdge'. -/
def rationalEdgeCard : Claim7 := { stood := { row := rationalEdgeRow, standIns := [], harness := (true, "c9ba83ed8660a0169479c7647cea58049c120ad5ea5c20ca2665289ac5b68d37"), looks := false }, kinds := [], alts := [], laidByText := true, laidKinds := [.data, .pinned], laidTests := true, laidLooks := .later }
def RationalEdgeCardSaid : Prop := Claim7.holds Tryd.pinned (.plain (OpenSpec.ofChange rationalEdgeSpec)) rationalEdgeCard

/-- THE TIED CARD OF 'insolvencylaw2.RationalParse'. -/
def rationalParseCard : Claim7 := { stood := { row := rationalParseRow, standIns := [], harness := (true, "c9ba83ed8660a0169479c7647cea58049c120ad5ea5c20ca2665289ac5b68d37"), looks := false }, kinds := [], alts := [], laidByText := true, laidKinds := [.data, .pinned], laidTests := true, laidLooks := .later }
def RationalParseCardSaid : Prop := Claim7.holds Tryd.pinned (.plain (OpenSpec.ofChange rationalParseSpec)) rationalParseCard

/-- THE SECOND FORM's CARD OF 'insolvencylaw2.RationalEdge'. -/
def rationalEdgeUptoCard : Claim7 := { stood := { row := rationalEdgeUptoRow, standIns := [], harness := (true, "c9ba83ed8660a0169479c7647cea58049c120ad5ea5c20ca2665289ac5b68d37"), looks := false }, kinds := [], alts := [], laidByText := true, laidKinds := [.data, .pinned], laidTests := true, laidLooks := .later }
def RationalEdgeUptoCardSaid : Prop := Claim7.holds Tryd.pinned (.plain (OpenSpec.upto rationalEdgeSpec)) rationalEdgeUptoCard

/-- THE SECOND FORM's CARD OF 'insolvencylaw2.RationalParse'. -/
def rationalParseUptoCard : Claim7 := { stood := { row := rationalParseUptoRow, standIns := [], harness := (true, "c9ba83ed8660a0169479c7647cea58049c120ad5ea5c20ca2665289ac5b68d37"), looks := false }, kinds := [], alts := [], laidByText := true, laidKinds := [.data, .pinned], laidTests := true, laidLooks := .later }
def RationalParseUptoCardSaid : Prop := Claim7.holds Tryd.pinned (.plain (OpenSpec.upto rationalParseSpec)) rationalParseUptoCard
end Rows
end Go.Proofs.YtlhmimbooampdaaDoor
