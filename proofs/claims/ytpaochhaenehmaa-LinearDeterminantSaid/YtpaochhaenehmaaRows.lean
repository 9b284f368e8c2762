/-
  No cell of these rows narrows 'for every input' (looked for: loops, veiled, ifaces, maps, wideKeys, modest, calm, conditions, laid).
  DERIVED. THE GIVEN ROWS OF THIS SEAT. 3 by the template 'for every input the law returns true; each argument reads behind the call as it read before'; 0 by the template 'total and deterministic' (their statements: YtpaochhaenehmaaTotals.lean).
  GIVEN WITH THE SEED: the statements are not yours to turn. If you find one false, say at which input.
  Laid BY PROGRAM, IN A SANDBOX (cutbox-rows.mjs): the forced cells as the released guide's own fill.sh prints them over the translation 74c6294de7f4fe1b… (all of the seat's roots in one cut). By AI agents, Wed Nov 11 2026. No macro, syntax, notation, axiom, sorry.
-/
import Derived.Test.YtpaochhaenehmaaChecked
import GoSem.Claim
import GoSem.ClaimJoined
import GoSem.ClaimMapViews
import Derived.JoinedTies
import Derived.KernelRfl
namespace Go.Proofs.Ytpaochhaenehmaa
/- THE CELL 'sum', in the pinned program and in every row, IS THE sha256 OF THE DUMP (.gsa) THAT YtpaochhaenehmaaProg.lean LOADS. Nothing in Lean hashes anything: it is a label: what it is worth is what the hold of that sum in a sandbox is worth. -/
noncomputable def Try.pinned : Pinned := { name := "ytpaochhaenehmaa", sum := "74c6294de7f4fe1b31f2f2a666d07a5ecdc93076fcf557386c20091f9e376a84", checked := Try.checked }
namespace Rows
def none {H : Type} : Left H := { results := [], args := [] }

/-- 'insolvencylaw3.LinearDeterminant': WHATEVER THE INPUT: true; the input reads as it did. -/
def linearDeterminantSpec : ChangeSpec := { name := "linearDeterminant", fn := fun _ => fun
  | [d] => { results := [.lit (.bool true)], args := [d] }
  | _ => none }
def linearDeterminantRow : OpenClaim := { program := "ytpaochhaenehmaa", sum := "74c6294de7f4fe1b31f2f2a666d07a5ecdc93076fcf557386c20091f9e376a84", func := "insolvency/insolvencylaw3.LinearDeterminant", spec := "linearDeterminant", inPlace := ["internal/bytealg.abigen_runtime_cmpstring"], apart := false }
def LinearDeterminantSaid : Prop := linearDeterminantRow.holds Try.pinned (OpenSpec.ofChange linearDeterminantSpec)

/-- ITS FALSE NEIGHBOUR: 'it returns false'. Refute it at one input. -/
def linearDeterminantWrong : ChangeSpec := { name := "linearDeterminant", fn := fun _ => fun
  | [d] => { results := [.lit (.bool false)], args := [d] }
  | _ => none }
def LinearDeterminantWrongFalsely : Prop := linearDeterminantRow.holds Try.pinned (OpenSpec.ofChange linearDeterminantWrong)

/-- 'insolvencylaw3.LinearLimits': WHATEVER THE INPUT: true; the input reads as it did. -/
def linearLimitsSpec : ChangeSpec := { name := "linearLimits", fn := fun _ => fun
  | [d1, d2] => { results := [.lit (.bool true)], args := [d1, d2] }
  | _ => none }
def linearLimitsRow : OpenClaim := { program := "ytpaochhaenehmaa", sum := "74c6294de7f4fe1b31f2f2a666d07a5ecdc93076fcf557386c20091f9e376a84", func := "insolvency/insolvencylaw3.LinearLimits", spec := "linearLimits", inPlace := ["internal/bytealg.abigen_runtime_cmpstring"], recurses := true, apart := false }
def LinearLimitsSaid : Prop := linearLimitsRow.holds Try.pinned (OpenSpec.ofChange linearLimitsSpec)

/-- ITS FALSE NEIGHBOUR: 'it returns false'. Refute it at one input. -/
def linearLimitsWrong : ChangeSpec := { name := "linearLimits", fn := fun _ => fun
  | [d1, d2] => { results := [.lit (.bool false)], args := [d1, d2] }
  | _ => none }
def LinearLimitsWrongFalsely : Prop := linearLimitsRow.holds Try.pinned (OpenSpec.ofChange linearLimitsWrong)

/-- 'insolvencylaw3.LinearRows': WHATEVER THE INPUT: true; the input reads as it did. -/
def linearRowsSpec : ChangeSpec := { name := "linearRows", fn := fun _ => fun
  | [d1, d2, d3, d4, d5, d6] => { results := [.lit (.bool true)], args := [d1, d2, d3, d4, d5, d6] }
  | _ => none }
def linearRowsRow : OpenClaim := { program := "ytpaochhaenehmaa", sum := "74c6294de7f4fe1b31f2f2a666d07a5ecdc93076fcf557386c20091f9e376a84", func := "insolvency/insolvencylaw3.LinearRows", spec := "linearRows", inPlace := ["internal/bytealg.abigen_runtime_cmpstring"], apart := false }
def LinearRowsSaid : Prop := linearRowsRow.holds Try.pinned (OpenSpec.ofChange linearRowsSpec)

/-- ITS FALSE NEIGHBOUR: 'it returns false'. Refute it at one input. -/
def linearRowsWrong : ChangeSpec := { name := "linearRows", fn := fun _ => fun
  | [d1, d2, d3, d4, d5, d6] => { results := [.lit (.bool false)], args := [d1, d2, d3, d4, d5, d6] }
  | _ => none }
def LinearRowsWrongFalsely : Prop := linearRowsRow.holds Try.pinned (OpenSpec.ofChange linearRowsWrong)

/- THE SECOND FORM. 'bulk': how many values and letters a reading holds, each counted each time it is reached (what is shared counts as often as it is met; a slice's spare places count too). A statement '..UptoSaid' is the law's where the arguments, and the package variables that the reading takes, are together of bulk at most 1048576: NARROWER than '..Said'. Prove '..Said' where nothing that the law and all that it calls make is longer than what came in: it says more and counts as full. Else prove '..UptoSaid'. A law counts once. -/
mutual
def uptoBulk {H : Type} : DataW H → Nat
  | .lit (.string bytes) => bytes.length + 1
  | .lit _ => 1
  | .nil => 1
  | .ptr d => uptoBulk d + 1
  | .slice elems spare => uptoBulkAll elems + uptoBulkAll spare + 1
  | .agg parts => uptoBulkAll parts + 1
  | .iface _ d => uptoBulk d + 1
  | .map entries => uptoBulkEntries entries + 1
  | .held _ => 1
def uptoBulkAll {H : Type} : List (DataW H) → Nat
  | [] => 0
  | d :: r => uptoBulk d + uptoBulkAll r
def uptoBulkEntries {H : Type} : List (Lit × DataW H) → Nat
  | [] => 0
  | x :: r => uptoBulkEntry x + uptoBulkEntries r
def uptoBulkEntry {H : Type} : Lit × DataW H → Nat
  | (.string bytes, d) => bytes.length + uptoBulk d + 1
  | (_, d) => uptoBulk d + 1
 end
def uptoSmall : (H : Type) → List (DataW H) → Bool := fun _ ds => decide (uptoBulkAll ds ≤ 1048576)
def OpenSpec.upto (s : _root_.Go.ChangeSpec) : _root_.Go.OpenSpec := { _root_.Go.OpenSpec.ofChange s with cond := some uptoSmall }

/-- 'insolvencylaw3.LinearDeterminant', WHERE WHAT IT READS IS OF BULK AT MOST 1048576: true; the input reads as it did. -/
def linearDeterminantUptoRow : OpenClaim := { program := "ytpaochhaenehmaa", sum := "74c6294de7f4fe1b31f2f2a666d07a5ecdc93076fcf557386c20091f9e376a84", func := "insolvency/insolvencylaw3.LinearDeterminant", spec := "linearDeterminant", inPlace := ["internal/bytealg.abigen_runtime_cmpstring"], apart := false, narrowed := true }
def LinearDeterminantUptoSaid : Prop := linearDeterminantUptoRow.holds Try.pinned (OpenSpec.upto linearDeterminantSpec)

/-- 'insolvencylaw3.LinearLimits', WHERE WHAT IT READS IS OF BULK AT MOST 1048576: true; the input reads as it did. -/
def linearLimitsUptoRow : OpenClaim := { program := "ytpaochhaenehmaa", sum := "74c6294de7f4fe1b31f2f2a666d07a5ecdc93076fcf557386c20091f9e376a84", func := "insolvency/insolvencylaw3.LinearLimits", spec := "linearLimits", inPlace := ["internal/bytealg.abigen_runtime_cmpstring"], recurses := true, apart := false, narrowed := true }
def LinearLimitsUptoSaid : Prop := linearLimitsUptoRow.holds Try.pinned (OpenSpec.upto linearLimitsSpec)

/-- 'insolvencylaw3.LinearRows', WHERE WHAT IT READS IS OF BULK AT MOST 1048576: true; the input reads as it did. -/
def linearRowsUptoRow : OpenClaim := { program := "ytpaochhaenehmaa", sum := "74c6294de7f4fe1b31f2f2a666d07a5ecdc93076fcf557386c20091f9e376a84", func := "insolvency/insolvencylaw3.LinearRows", spec := "linearRows", inPlace := ["internal/bytealg.abigen_runtime_cmpstring"], apart := false, narrowed := true }
def LinearRowsUptoSaid : Prop := linearRowsUptoRow.holds Try.pinned (OpenSpec.upto linearRowsSpec)

end Rows
end Go.Proofs.Ytpaochhaenehmaa
