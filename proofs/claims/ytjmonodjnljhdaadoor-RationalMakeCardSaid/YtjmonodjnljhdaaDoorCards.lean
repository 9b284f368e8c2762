/-
  DERIVED. GIVEN WITH THE SEED: THE CARDS: each row of YtjmonodjnljhdaaDoorRows.lean that lists a variable, with what it lists TIED to the program's text (the seventh form; the later family's looks); each row that meets fmt, with fmt's text TOLD by the authors' own Lean function (tested against real Go, not proved from fmt's source: count such statements apart). THE CARD IS WHAT COUNTS. Prove the row's statement (the work); the ties are given (YtjmonodjnljhdaaDoorTie.lean); close each card by the builder's one call (the guide's Derived/Test/ToyasCard.lean, 'card_holds'). Laid BY PROGRAM, IN A SANDBOX (cutbox-door.mjs). By AI agents, Wed Nov 11 2026. No macro, syntax, notation, axiom, sorry.
-/
import Derived.Test.YtjmonodjnljhdaaDoorRows
import GoSem.ClaimSeven
namespace Go.Proofs.YtjmonodjnljhdaaDoor
namespace Rows

/-- THE TIED CARD OF 'insolvencylaw1.NaturalQuotient'. -/
def naturalQuotientCard : Claim7 := { stood := { row := naturalQuotientRow, standIns := [], harness := (true, "f2e377b600c6341febe1e1da9daad75950a9ca3bd4fd48219017b3341cf17679"), looks := false }, kinds := [], alts := [], laidByText := true, laidKinds := [.data, .pinned], laidTests := true, laidLooks := .later }
def NaturalQuotientCardSaid : Prop := Claim7.holds Tryd.pinned (.plain (OpenSpec.ofChange naturalQuotientSpec)) naturalQuotientCard

/-- THE TIED CARD OF 'insolvencylaw1.NaturalGCD'. -/
def naturalGCDCard : Claim7 := { stood := { row := naturalGCDRow, standIns := [], harness := (true, "f2e377b600c6341febe1e1da9daad75950a9ca3bd4fd48219017b3341cf17679"), looks := false }, kinds := [], alts := [], laidByText := true, laidKinds := [.data, .pinned], laidTests := true, laidLooks := .later }
def NaturalGCDCardSaid : Prop := Claim7.holds Tryd.pinned (.plain (OpenSpec.ofChange naturalGCDSpec)) naturalGCDCard

/-- THE TIED CARD OF 'insolvencylaw2.RationalValid'. -/
def rationalValidCard : Claim7 := { stood := { row := rationalValidRow, standIns := [], harness := (true, "f2e377b600c6341febe1e1da9daad75950a9ca3bd4fd48219017b3341cf17679"), looks := false }, kinds := [], alts := [], laidByText := true, laidKinds := [.data, .pinned], laidTests := true, laidLooks := .later }
def RationalValidCardSaid : Prop := Claim7.holds Tryd.pinned (.plain (OpenSpec.ofChange rationalValidSpec)) rationalValidCard

/-- THE TIED CARD OF 'insolvencylaw2.RationalMake'. -/
def rationalMakeCard : Claim7 := { stood := { row := rationalMakeRow, standIns := [], harness := (true, "f2e377b600c6341febe1e1da9daad75950a9ca3bd4fd48219017b3341cf17679"), looks := false }, kinds := [], alts := [], laidByText := true, laidKinds := [.data, .pinned], laidTests := true, laidLooks := .later }
def RationalMakeCardSaid : Prop := Claim7.holds Tryd.pinned (.plain (OpenSpec.ofChange rationalMakeSpec)) rationalMakeCard

/-- THE TIED CARD OF 'insolvencylaw2.RationalEdge'. -/
def rationalEdgeCard : Claim7 := { stood := { row := rationalEdgeRow, standIns := [], harness := (true, "f2e377b600c6341febe1e1da9daad75950a9ca3bd4fd48219017b3341cf17679"), looks := false }, kinds := [], alts := [], laidByText := true, laidKinds := [.data, .pinned], laidTests := true, laidLooks := .later }
def RationalEdgeCardSaid : Prop := Claim7.holds Tryd.pinned (.plain (OpenSpec.ofChange rationalEdgeSpec)) rationalEdgeCard

/-- THE TIED CARD OF 'insolvencylaw2.RationalParse'. -/
def rationalParseCard : Claim7 := { stood := { row := rationalParseRow, standIns := [], harness := (true, "f2e377b600c6341febe1e1da9daad75950a9ca3bd4fd48219017b3341cf17679"), looks := false }, kinds := [], alts := [], laidByText := true, laidKinds := [.data, .pinned], laidTests := true, laidLooks := .later }
def RationalParseCardSaid : Prop := Claim7.holds Tryd.pinned (.plain (OpenSpec.ofChange rationalParseSpec)) rationalParseCard

/-- THE SECOND FORM's CARD OF 'insolvencylaw1.NaturalQuotient'. -/
def naturalQuotientUptoCard : Claim7 := { stood := { row := naturalQuotientUptoRow, standIns := [], harness := (true, "f2e377b600c6341febe1e1da9daad75950a9ca3bd4fd48219017b3341cf17679"), looks := false }, kinds := [], alts := [], laidByText := true, laidKinds := [.data, .pinned], laidTests := true, laidLooks := .later }
def NaturalQuotientUptoCardSaid : Prop := Claim7.holds Tryd.pinned (.plain (OpenSpec.upto naturalQuotientSpec)) naturalQuotientUptoCard

/-- THE SECOND FORM's CARD OF 'insolvencylaw1.NaturalGCD'. -/
def naturalGCDUptoCard : Claim7 := { stood := { row := naturalGCDUptoRow, standIns := [], harness := (true, "f2e377b600c6341febe1e1da9daad75950a9ca3bd4fd48219017b3341cf17679"), looks := false }, kinds := [], alts := [], laidByText := true, laidKinds := [.data, .pinned], laidTests := true, laidLooks := .later }
def NaturalGCDUptoCardSaid : Prop := Claim7.holds Tryd.pinned (.plain (OpenSpec.upto naturalGCDSpec)) naturalGCDUptoCard

/-- THE SECOND FORM's CARD OF 'insolvencylaw2.RationalValid'. -/
def rationalValidUptoCard : Claim7 := { stood := { row := rationalValidUptoRow, standIns := [], harness := (true, "f2e377b600c6341febe1e1da9daad75950a9ca3bd4fd48219017b3341cf17679"), looks := false }, kinds := [], alts := [], laidByText := true, laidKinds := [.data, .pinned], laidTests := true, laidLooks := .later }
def RationalValidUptoCardSaid : Prop := Claim7.holds Tryd.pinned (.plain (OpenSpec.upto rationalValidSpec)) rationalValidUptoCard

/-- THE SECOND FORM's CARD OF 'insolvencylaw2.RationalMake'. -/
def rationalMakeUptoCard : Claim7 := { stood := { row := rationalMakeUptoRow, standIns := [], harness := (true, "f2e377b600c6341febe1e1da9daad75950a9ca3bd4fd48219017b3341cf17679"), looks := false }, kinds := [], alts := [], laidByText := true, laidKinds := [.data, .pinned], laidTests := true, laidLooks := .later }
def RationalMakeUptoCardSaid : Prop := Claim7.holds Tryd.pinned (.plain (OpenSpec.upto rationalMakeSpec)) rationalMakeUptoCard

/-- THE SECOND FORM's CARD OF 'insolvencylaw2.RationalEdge'. -/
def rationalEdgeUptoCard : Claim7 := { stood := { row := rationalEdgeUptoRow, standIns := [], harness := (true, "f2e377b600c6341febe1e1da9daad75950a9ca3bd4fd48219017b3341cf17679"), looks := false }, kinds := [], alts := [], laidByText := true, laidKinds := [.data, .pinned], laidTests := true, laidLooks := .later }
def RationalEdgeUptoCardSaid : Prop := Claim7.holds Tryd.pinned (.plain (OpenSpec.upto rationalEdgeSpec)) rationalEdgeUptoCard

/-- THE SECOND FORM's CARD OF 'insolvencylaw2.RationalParse'. -/
def rationalParseUptoCard : Claim7 := { stood := { row := rationalParseUptoRow, standIns := [], harness := (true, "f2e377b600c6341febe1e1da9daad75950a9ca3bd4fd48219017b3341cf17679"), looks := false }, kinds := [], alts := [], laidByText := true, laidKinds := [.data, .pinned], laidTests := true, laidLooks := .later }
def RationalParseUptoCardSaid : Prop := Claim7.holds Tryd.pinned (.plain (OpenSpec.upto rationalParseSpec)) rationalParseUptoCard
end Rows
end Go.Proofs.YtjmonodjnljhdaaDoor
