/-
  No cell of these rows narrows 'for every input' (looked for: loops, veiled, ifaces, maps, wideKeys, modest, calm, conditions, laid).
  DERIVED. THE GIVEN ROWS OF THIS SEAT. 4 by the template 'for every input the law returns true; each argument reads behind the call as it read before'; 0 by the template 'total and deterministic' (their statements: YtdlejpaaoinokaaTotals.lean).
  GIVEN WITH THE SEED: the statements are not yours to turn. If you find one false, say at which input.
  Laid BY PROGRAM, IN A SANDBOX (cutbox-rows.mjs): the forced cells as the released guide's own fill.sh prints them over the translation b883f4a30233c3b7… (all of the seat's roots in one cut). By AI agents, Wed Nov 11 2026. No macro, syntax, notation, axiom, sorry.
-/
import Derived.Test.YtdlejpaaoinokaaChecked
import GoSem.Claim
import GoSem.ClaimJoined
import GoSem.ClaimMapViews
import Derived.JoinedTies
import Derived.KernelRfl
namespace Go.Proofs.Ytdlejpaaoinokaa
/- THE CELL 'sum', in the pinned program and in every row, IS THE sha256 OF THE DUMP (.gsa) THAT YtdlejpaaoinokaaProg.lean LOADS. Nothing in Lean hashes anything: it is a label: what it is worth is what the hold of that sum in a sandbox is worth. -/
noncomputable def Try.pinned : Pinned := { name := "ytdlejpaaoinokaa", sum := "b883f4a30233c3b7043f5c95cacd373e5c340539b47300d28f3015eb5406b172", checked := Try.checked }
namespace Rows
def none {H : Type} : Left H := { results := [], args := [] }

/-- 'insolvencylaw4.ApportionLargest': WHATEVER THE INPUT: true; the input reads as it did. -/
def apportionLargestSpec : ChangeSpec := { name := "apportionLargest", fn := fun _ => fun
  | [d] => { results := [.lit (.bool true)], args := [d] }
  | _ => none }
def apportionLargestRow : OpenClaim := { program := "ytdlejpaaoinokaa", sum := "b883f4a30233c3b7043f5c95cacd373e5c340539b47300d28f3015eb5406b172", func := "insolvency/insolvencylaw4.ApportionLargest", spec := "apportionLargest", inPlace := ["internal/bytealg.abigen_runtime_cmpstring"], unfollowed := true, recurses := true, apart := false }
def ApportionLargestSaid : Prop := apportionLargestRow.holds Try.pinned (OpenSpec.ofChange apportionLargestSpec)

/-- ITS FALSE NEIGHBOUR: 'it returns false'. Refute it at one input. -/
def apportionLargestWrong : ChangeSpec := { name := "apportionLargest", fn := fun _ => fun
  | [d] => { results := [.lit (.bool false)], args := [d] }
  | _ => none }
def ApportionLargestWrongFalsely : Prop := apportionLargestRow.holds Try.pinned (OpenSpec.ofChange apportionLargestWrong)

/-- 'insolvencylaw4.ApportionSplit': WHATEVER THE INPUT: true; the input reads as it did. -/
def apportionSplitSpec : ChangeSpec := { name := "apportionSplit", fn := fun _ => fun
  | [d1, d2] => { results := [.lit (.bool true)], args := [d1, d2] }
  | _ => none }
def apportionSplitRow : OpenClaim := { program := "ytdlejpaaoinokaa", sum := "b883f4a30233c3b7043f5c95cacd373e5c340539b47300d28f3015eb5406b172", func := "insolvency/insolvencylaw4.ApportionSplit", spec := "apportionSplit", inPlace := ["internal/bytealg.abigen_runtime_cmpstring"], unfollowed := true, recurses := true, apart := false }
def ApportionSplitSaid : Prop := apportionSplitRow.holds Try.pinned (OpenSpec.ofChange apportionSplitSpec)

/-- ITS FALSE NEIGHBOUR: 'it returns false'. Refute it at one input. -/
def apportionSplitWrong : ChangeSpec := { name := "apportionSplit", fn := fun _ => fun
  | [d1, d2] => { results := [.lit (.bool false)], args := [d1, d2] }
  | _ => none }
def ApportionSplitWrongFalsely : Prop := apportionSplitRow.holds Try.pinned (OpenSpec.ofChange apportionSplitWrong)

/-- 'insolvencylaw4.ApportionMany': WHATEVER THE INPUT: true; the input reads as it did. -/
def apportionManySpec : ChangeSpec := { name := "apportionMany", fn := fun _ => fun
  | [d] => { results := [.lit (.bool true)], args := [d] }
  | _ => none }
def apportionManyRow : OpenClaim := { program := "ytdlejpaaoinokaa", sum := "b883f4a30233c3b7043f5c95cacd373e5c340539b47300d28f3015eb5406b172", func := "insolvency/insolvencylaw4.ApportionMany", spec := "apportionMany", inPlace := ["internal/bytealg.abigen_runtime_cmpstring"], unfollowed := true, recurses := true, apart := false }
def ApportionManySaid : Prop := apportionManyRow.holds Try.pinned (OpenSpec.ofChange apportionManySpec)

/-- ITS FALSE NEIGHBOUR: 'it returns false'. Refute it at one input. -/
def apportionManyWrong : ChangeSpec := { name := "apportionMany", fn := fun _ => fun
  | [d] => { results := [.lit (.bool false)], args := [d] }
  | _ => none }
def ApportionManyWrongFalsely : Prop := apportionManyRow.holds Try.pinned (OpenSpec.ofChange apportionManyWrong)

/-- 'insolvencylaw4.ApportionRest': WHATEVER THE INPUT: true; the input reads as it did. -/
def apportionRestSpec : ChangeSpec := { name := "apportionRest", fn := fun _ => fun
  | [d] => { results := [.lit (.bool true)], args := [d] }
  | _ => none }
def apportionRestRow : OpenClaim := { program := "ytdlejpaaoinokaa", sum := "b883f4a30233c3b7043f5c95cacd373e5c340539b47300d28f3015eb5406b172", func := "insolvency/insolvencylaw4.ApportionRest", spec := "apportionRest", inPlace := ["internal/bytealg.abigen_runtime_cmpstring"], unfollowed := true, recurses := true, apart := false }
def ApportionRestSaid : Prop := apportionRestRow.holds Try.pinned (OpenSpec.ofChange apportionRestSpec)

/-- ITS FALSE NEIGHBOUR: 'it returns false'. Refute it at one input. -/
def apportionRestWrong : ChangeSpec := { name := "apportionRest", fn := fun _ => fun
  | [d] => { results := [.lit (.bool false)], args := [d] }
  | _ => none }
def ApportionRestWrongFalsely : Prop := apportionRestRow.holds Try.pinned (OpenSpec.ofChange apportionRestWrong)

/- THE SECOND FORM. 'bulk': how many values and letters a reading holds, each counted each time it is reached (what is shared counts as often as it is met; a slice's spare places count too). A statement '..UptoSaid' is the law's where the arguments, and the package variables that the reading takes, are together of bulk at most 1048576: NARROWER than '..Said'. Prove '..Said' where nothing that the law and all that it calls make is longer than what came in: it says more and counts as full. Else prove '..UptoSaid'. A law counts once. -/
mutual
def uptoBulk {H : Type} : DataW H → Nat
  | .lit (.string bytes) => bytes.length + 1
  | .lit _ => 1
  | .nil => 1
  | .ptr d => uptoBulk d + 1
  | .slice elems spare => uptoBulkAll elems + uptoBulkAll spare + 1
  | .agg parts => uptoBulkAll parts + 1
  | .iface _ d => uptoBulk d + 1
  | .map entries => uptoBulkEntries entries + 1
  | .held _ => 1
def uptoBulkAll {H : Type} : List (DataW H) → Nat
  | [] => 0
  | d :: r => uptoBulk d + uptoBulkAll r
def uptoBulkEntries {H : Type} : List (Lit × DataW H) → Nat
  | [] => 0
  | x :: r => uptoBulkEntry x + uptoBulkEntries r
def uptoBulkEntry {H : Type} : Lit × DataW H → Nat
  | (.string bytes, d) => bytes.length + uptoBulk d + 1
  | (_, d) => uptoBulk d + 1
 end
def uptoSmall : (H : Type) → List (DataW H) → Bool := fun _ ds => decide (uptoBulkAll ds ≤ 1048576)
def OpenSpec.upto (s : _root_.Go.ChangeSpec) : _root_.Go.OpenSpec := { _root_.Go.OpenSpec.ofChange s with cond := some uptoSmall }

/-- 'insolvencylaw4.ApportionLargest', WHERE WHAT IT READS IS OF BULK AT MOST 1048576: true; the input reads as it did. -/
def apportionLargestUptoRow : OpenClaim := { program := "ytdlejpaaoinokaa", sum := "b883f4a30233c3b7043f5c95cacd373e5c340539b47300d28f3015eb5406b172", func := "insolvency/insolvencylaw4.ApportionLargest", spec := "apportionLargest", inPlace := ["internal/bytealg.abigen_runtime_cmpstring"], unfollowed := true, recurses := true, apart := false, narrowed := true }
def ApportionLargestUptoSaid : Prop := apportionLargestUptoRow.holds Try.pinned (OpenSpec.upto apportionLargestSpec)

/-- 'insolvencylaw4.ApportionSplit', WHERE WHAT IT READS IS OF BULK AT MOST 1048576: true; the input reads as it did. -/
def apportionSplitUptoRow : OpenClaim := { program := "ytdlejpaaoinokaa", sum := "b883f4a30233c3b7043f5c95cacd373e5c340539b47300d28f3015eb5406b172", func := "insolvency/insolvencylaw4.ApportionSplit", spec := "apportionSplit", inPlace := ["internal/bytealg.abigen_runtime_cmpstring"], unfollowed := true, recurses := true, apart := false, narrowed := true }
def ApportionSplitUptoSaid : Prop := apportionSplitUptoRow.holds Try.pinned (OpenSpec.upto apportionSplitSpec)

/-- 'insolvencylaw4.ApportionMany', WHERE WHAT IT READS IS OF BULK AT MOST 1048576: true; the input reads as it did. -/
def apportionManyUptoRow : OpenClaim := { program := "ytdlejpaaoinokaa", sum := "b883f4a30233c3b7043f5c95cacd373e5c340539b47300d28f3015eb5406b172", func := "insolvency/insolvencylaw4.ApportionMany", spec := "apportionMany", inPlace := ["internal/bytealg.abigen_runtime_cmpstring"], unfollowed := true, recurses := true, apart := false, narrowed := true }
def ApportionManyUptoSaid : Prop := apportionManyUptoRow.holds Try.pinned (OpenSpec.upto apportionManySpec)

/-- 'insolvencylaw4.ApportionRest', WHERE WHAT IT READS IS OF BULK AT MOST 1048576: true; the input reads as it did. -/
def apportionRestUptoRow : OpenClaim := { program := "ytdlejpaaoinokaa", sum := "b883f4a30233c3b7043f5c95cacd373e5c340539b47300d28f3015eb5406b172", func := "insolvency/insolvencylaw4.ApportionRest", spec := "apportionRest", inPlace := ["internal/bytealg.abigen_runtime_cmpstring"], unfollowed := true, recurses := true, apart := false, narrowed := true }
def ApportionRestUptoSaid : Prop := apportionRestUptoRow.holds Try.pinned (OpenSpec.upto apportionRestSpec)

end Rows
end Go.Proofs.Ytdlejpaaoinokaa
