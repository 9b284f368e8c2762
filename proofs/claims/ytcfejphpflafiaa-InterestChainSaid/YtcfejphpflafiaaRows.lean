/-
  No cell of these rows narrows 'for every input' (looked for: loops, veiled, ifaces, maps, wideKeys, modest, calm, conditions, laid).
  DERIVED. THE GIVEN ROWS OF THIS SEAT. 9 by the template 'for every input the law returns true; each argument reads behind the call as it read before'; 0 by the template 'total and deterministic' (their statements: YtcfejphpflafiaaTotals.lean).
  GIVEN WITH THE SEED: the statements are not yours to turn. If you find one false, say at which input.
  Laid BY PROGRAM, IN A SANDBOX (cutbox-rows.mjs): the forced cells as the released guide's own fill.sh prints them over the translation 176af56ba811c632… (all of the seat's roots in one cut). By AI agents, Wed Nov 11 2026. No macro, syntax, notation, axiom, sorry.
-/
import Derived.Test.YtcfejphpflafiaaChecked
import GoSem.Claim
import GoSem.ClaimJoined
import GoSem.ClaimMapViews
import Derived.JoinedTies
import Derived.KernelRfl
namespace Go.Proofs.Ytcfejphpflafiaa
/- THE CELL 'sum', in the pinned program and in every row, IS THE sha256 OF THE DUMP (.gsa) THAT YtcfejphpflafiaaProg.lean LOADS. Nothing in Lean hashes anything: it is a label: what it is worth is what the hold of that sum in a sandbox is worth. -/
noncomputable def Try.pinned : Pinned := { name := "ytcfejphpflafiaa", sum := "176af56ba811c632920e623ea8741c66b9760496ea49344f95ea0d44d88650d8", checked := Try.checked }
namespace Rows
def none {H : Type} : Left H := { results := [], args := [] }

/-- 'insolvencylaw6.InterestCheck': WHATEVER THE INPUT: true; the input reads as it did. -/
def interestCheckSpec : ChangeSpec := { name := "interestCheck", fn := fun _ => fun
  | [d] => { results := [.lit (.bool true)], args := [d] }
  | _ => none }
def interestCheckRow : OpenClaim := { program := "ytcfejphpflafiaa", sum := "176af56ba811c632920e623ea8741c66b9760496ea49344f95ea0d44d88650d8", func := "insolvency/insolvencylaw6.InterestCheck", spec := "interestCheck", inPlace := ["internal/bytealg.abigen_runtime_cmpstring"], recurses := true, apart := false }
def InterestCheckSaid : Prop := interestCheckRow.holds Try.pinned (OpenSpec.ofChange interestCheckSpec)

/-- ITS FALSE NEIGHBOUR: 'it returns false'. Refute it at one input. -/
def interestCheckWrong : ChangeSpec := { name := "interestCheck", fn := fun _ => fun
  | [d] => { results := [.lit (.bool false)], args := [d] }
  | _ => none }
def InterestCheckWrongFalsely : Prop := interestCheckRow.holds Try.pinned (OpenSpec.ofChange interestCheckWrong)

/-- 'insolvencylaw6.InterestRate': WHATEVER THE INPUT: true; the input reads as it did. -/
def interestRateSpec : ChangeSpec := { name := "interestRate", fn := fun _ => fun
  | [d1, d2] => { results := [.lit (.bool true)], args := [d1, d2] }
  | _ => none }
def interestRateRow : OpenClaim := { program := "ytcfejphpflafiaa", sum := "176af56ba811c632920e623ea8741c66b9760496ea49344f95ea0d44d88650d8", func := "insolvency/insolvencylaw6.InterestRate", spec := "interestRate", inPlace := ["internal/bytealg.abigen_runtime_cmpstring"], recurses := true, apart := false }
def InterestRateSaid : Prop := interestRateRow.holds Try.pinned (OpenSpec.ofChange interestRateSpec)

/-- ITS FALSE NEIGHBOUR: 'it returns false'. Refute it at one input. -/
def interestRateWrong : ChangeSpec := { name := "interestRate", fn := fun _ => fun
  | [d1, d2] => { results := [.lit (.bool false)], args := [d1, d2] }
  | _ => none }
def InterestRateWrongFalsely : Prop := interestRateRow.holds Try.pinned (OpenSpec.ofChange interestRateWrong)

/-- 'insolvencylaw6.InterestSimple': WHATEVER THE INPUT: true; the input reads as it did. -/
def interestSimpleSpec : ChangeSpec := { name := "interestSimple", fn := fun _ => fun
  | [d1, d2, d3, d4, d5] => { results := [.lit (.bool true)], args := [d1, d2, d3, d4, d5] }
  | _ => none }
def interestSimpleRow : OpenClaim := { program := "ytcfejphpflafiaa", sum := "176af56ba811c632920e623ea8741c66b9760496ea49344f95ea0d44d88650d8", func := "insolvency/insolvencylaw6.InterestSimple", spec := "interestSimple", inPlace := ["internal/bytealg.abigen_runtime_cmpstring"], recurses := true, apart := false }
def InterestSimpleSaid : Prop := interestSimpleRow.holds Try.pinned (OpenSpec.ofChange interestSimpleSpec)

/-- ITS FALSE NEIGHBOUR: 'it returns false'. Refute it at one input. -/
def interestSimpleWrong : ChangeSpec := { name := "interestSimple", fn := fun _ => fun
  | [d1, d2, d3, d4, d5] => { results := [.lit (.bool false)], args := [d1, d2, d3, d4, d5] }
  | _ => none }
def InterestSimpleWrongFalsely : Prop := interestSimpleRow.holds Try.pinned (OpenSpec.ofChange interestSimpleWrong)

/-- 'insolvencylaw6.InterestSums': WHATEVER THE INPUT: true; the input reads as it did. -/
def interestSumsSpec : ChangeSpec := { name := "interestSums", fn := fun _ => fun
  | [d1, d2, d3, d4] => { results := [.lit (.bool true)], args := [d1, d2, d3, d4] }
  | _ => none }
def interestSumsRow : OpenClaim := { program := "ytcfejphpflafiaa", sum := "176af56ba811c632920e623ea8741c66b9760496ea49344f95ea0d44d88650d8", func := "insolvency/insolvencylaw6.InterestSums", spec := "interestSums", inPlace := ["internal/bytealg.abigen_runtime_cmpstring"], recurses := true, apart := false }
def InterestSumsSaid : Prop := interestSumsRow.holds Try.pinned (OpenSpec.ofChange interestSumsSpec)

/-- ITS FALSE NEIGHBOUR: 'it returns false'. Refute it at one input. -/
def interestSumsWrong : ChangeSpec := { name := "interestSums", fn := fun _ => fun
  | [d1, d2, d3, d4] => { results := [.lit (.bool false)], args := [d1, d2, d3, d4] }
  | _ => none }
def InterestSumsWrongFalsely : Prop := interestSumsRow.holds Try.pinned (OpenSpec.ofChange interestSumsWrong)

/-- 'insolvencylaw6.InterestCompound': WHATEVER THE INPUT: true; the input reads as it did. -/
def interestCompoundSpec : ChangeSpec := { name := "interestCompound", fn := fun _ => fun
  | [d1, d2, d3, d4, d5, d6] => { results := [.lit (.bool true)], args := [d1, d2, d3, d4, d5, d6] }
  | _ => none }
def interestCompoundRow : OpenClaim := { program := "ytcfejphpflafiaa", sum := "176af56ba811c632920e623ea8741c66b9760496ea49344f95ea0d44d88650d8", func := "insolvency/insolvencylaw6.InterestCompound", spec := "interestCompound", inPlace := ["internal/bytealg.abigen_runtime_cmpstring"], recurses := true, apart := false }
def InterestCompoundSaid : Prop := interestCompoundRow.holds Try.pinned (OpenSpec.ofChange interestCompoundSpec)

/-- ITS FALSE NEIGHBOUR: 'it returns false'. Refute it at one input. -/
def interestCompoundWrong : ChangeSpec := { name := "interestCompound", fn := fun _ => fun
  | [d1, d2, d3, d4, d5, d6] => { results := [.lit (.bool false)], args := [d1, d2, d3, d4, d5, d6] }
  | _ => none }
def InterestCompoundWrongFalsely : Prop := interestCompoundRow.holds Try.pinned (OpenSpec.ofChange interestCompoundWrong)

/-- 'insolvencylaw6.InterestPeriods': WHATEVER THE INPUT: true; the input reads as it did. -/
def interestPeriodsSpec : ChangeSpec := { name := "interestPeriods", fn := fun _ => fun
  | [d1, d2, d3, d4, d5] => { results := [.lit (.bool true)], args := [d1, d2, d3, d4, d5] }
  | _ => none }
def interestPeriodsRow : OpenClaim := { program := "ytcfejphpflafiaa", sum := "176af56ba811c632920e623ea8741c66b9760496ea49344f95ea0d44d88650d8", func := "insolvency/insolvencylaw6.InterestPeriods", spec := "interestPeriods", inPlace := ["internal/bytealg.abigen_runtime_cmpstring"], recurses := true, apart := false }
def InterestPeriodsSaid : Prop := interestPeriodsRow.holds Try.pinned (OpenSpec.ofChange interestPeriodsSpec)

/-- ITS FALSE NEIGHBOUR: 'it returns false'. Refute it at one input. -/
def interestPeriodsWrong : ChangeSpec := { name := "interestPeriods", fn := fun _ => fun
  | [d1, d2, d3, d4, d5] => { results := [.lit (.bool false)], args := [d1, d2, d3, d4, d5] }
  | _ => none }
def InterestPeriodsWrongFalsely : Prop := interestPeriodsRow.holds Try.pinned (OpenSpec.ofChange interestPeriodsWrong)

/-- 'insolvencylaw6.InterestAdditive': WHATEVER THE INPUT: true; the input reads as it did. -/
def interestAdditiveSpec : ChangeSpec := { name := "interestAdditive", fn := fun _ => fun
  | [d1, d2, d3, d4, d5, d6] => { results := [.lit (.bool true)], args := [d1, d2, d3, d4, d5, d6] }
  | _ => none }
def interestAdditiveRow : OpenClaim := { program := "ytcfejphpflafiaa", sum := "176af56ba811c632920e623ea8741c66b9760496ea49344f95ea0d44d88650d8", func := "insolvency/insolvencylaw6.InterestAdditive", spec := "interestAdditive", inPlace := ["internal/bytealg.abigen_runtime_cmpstring"], recurses := true, apart := false }
def InterestAdditiveSaid : Prop := interestAdditiveRow.holds Try.pinned (OpenSpec.ofChange interestAdditiveSpec)

/-- ITS FALSE NEIGHBOUR: 'it returns false'. Refute it at one input. -/
def interestAdditiveWrong : ChangeSpec := { name := "interestAdditive", fn := fun _ => fun
  | [d1, d2, d3, d4, d5, d6] => { results := [.lit (.bool false)], args := [d1, d2, d3, d4, d5, d6] }
  | _ => none }
def InterestAdditiveWrongFalsely : Prop := interestAdditiveRow.holds Try.pinned (OpenSpec.ofChange interestAdditiveWrong)

/-- 'insolvencylaw6.InterestAtLeast': WHATEVER THE INPUT: true; the input reads as it did. -/
def interestAtLeastSpec : ChangeSpec := { name := "interestAtLeast", fn := fun _ => fun
  | [d1, d2, d3, d4, d5] => { results := [.lit (.bool true)], args := [d1, d2, d3, d4, d5] }
  | _ => none }
def interestAtLeastRow : OpenClaim := { program := "ytcfejphpflafiaa", sum := "176af56ba811c632920e623ea8741c66b9760496ea49344f95ea0d44d88650d8", func := "insolvency/insolvencylaw6.InterestAtLeast", spec := "interestAtLeast", inPlace := ["internal/bytealg.abigen_runtime_cmpstring"], recurses := true, apart := false }
def InterestAtLeastSaid : Prop := interestAtLeastRow.holds Try.pinned (OpenSpec.ofChange interestAtLeastSpec)

/-- ITS FALSE NEIGHBOUR: 'it returns false'. Refute it at one input. -/
def interestAtLeastWrong : ChangeSpec := { name := "interestAtLeast", fn := fun _ => fun
  | [d1, d2, d3, d4, d5] => { results := [.lit (.bool false)], args := [d1, d2, d3, d4, d5] }
  | _ => none }
def InterestAtLeastWrongFalsely : Prop := interestAtLeastRow.holds Try.pinned (OpenSpec.ofChange interestAtLeastWrong)

/-- 'insolvencylaw6.InterestChain': WHATEVER THE INPUT: true; the input reads as it did. -/
def interestChainSpec : ChangeSpec := { name := "interestChain", fn := fun _ => fun
  | [d1, d2, d3, d4, d5, d6] => { results := [.lit (.bool true)], args := [d1, d2, d3, d4, d5, d6] }
  | _ => none }
def interestChainRow : OpenClaim := { program := "ytcfejphpflafiaa", sum := "176af56ba811c632920e623ea8741c66b9760496ea49344f95ea0d44d88650d8", func := "insolvency/insolvencylaw6.InterestChain", spec := "interestChain", inPlace := ["internal/bytealg.abigen_runtime_cmpstring"], recurses := true, apart := false }
def InterestChainSaid : Prop := interestChainRow.holds Try.pinned (OpenSpec.ofChange interestChainSpec)

/-- ITS FALSE NEIGHBOUR: 'it returns false'. Refute it at one input. -/
def interestChainWrong : ChangeSpec := { name := "interestChain", fn := fun _ => fun
  | [d1, d2, d3, d4, d5, d6] => { results := [.lit (.bool false)], args := [d1, d2, d3, d4, d5, d6] }
  | _ => none }
def InterestChainWrongFalsely : Prop := interestChainRow.holds Try.pinned (OpenSpec.ofChange interestChainWrong)

/- THE SECOND FORM. 'bulk': how many values and letters a reading holds, each counted each time it is reached (what is shared counts as often as it is met; a slice's spare places count too). A statement '..UptoSaid' is the law's where the arguments, and the package variables that the reading takes, are together of bulk at most 1048576: NARROWER than '..Said'. Prove '..Said' where nothing that the law and all that it calls make is longer than what came in: it says more and counts as full. Else prove '..UptoSaid'. A law counts once. -/
mutual
def uptoBulk {H : Type} : DataW H → Nat
  | .lit (.string bytes) => bytes.length + 1
  | .lit _ => 1
  | .nil => 1
  | .ptr d => uptoBulk d + 1
  | .slice elems spare => uptoBulkAll elems + uptoBulkAll spare + 1
  | .agg parts => uptoBulkAll parts + 1
  | .iface _ d => uptoBulk d + 1
  | .map entries => uptoBulkEntries entries + 1
  | .held _ => 1
def uptoBulkAll {H : Type} : List (DataW H) → Nat
  | [] => 0
  | d :: r => uptoBulk d + uptoBulkAll r
def uptoBulkEntries {H : Type} : List (Lit × DataW H) → Nat
  | [] => 0
  | x :: r => uptoBulkEntry x + uptoBulkEntries r
def uptoBulkEntry {H : Type} : Lit × DataW H → Nat
  | (.string bytes, d) => bytes.length + uptoBulk d + 1
  | (_, d) => uptoBulk d + 1
 end
def uptoSmall : (H : Type) → List (DataW H) → Bool := fun _ ds => decide (uptoBulkAll ds ≤ 1048576)
def OpenSpec.upto (s : _root_.Go.ChangeSpec) : _root_.Go.OpenSpec := { _root_.Go.OpenSpec.ofChange s with cond := some uptoSmall }

/-- 'insolvencylaw6.InterestCheck', WHERE WHAT IT READS IS OF BULK AT MOST 1048576: true; the input reads as it did. -/
def interestCheckUptoRow : OpenClaim := { program := "ytcfejphpflafiaa", sum := "176af56ba811c632920e623ea8741c66b9760496ea49344f95ea0d44d88650d8", func := "insolvency/insolvencylaw6.InterestCheck", spec := "interestCheck", inPlace := ["internal/bytealg.abigen_runtime_cmpstring"], recurses := true, apart := false, narrowed := true }
def InterestCheckUptoSaid : Prop := interestCheckUptoRow.holds Try.pinned (OpenSpec.upto interestCheckSpec)

/-- 'insolvencylaw6.InterestRate', WHERE WHAT IT READS IS OF BULK AT MOST 1048576: true; the input reads as it did. -/
def interestRateUptoRow : OpenClaim := { program := "ytcfejphpflafiaa", sum := "176af56ba811c632920e623ea8741c66b9760496ea49344f95ea0d44d88650d8", func := "insolvency/insolvencylaw6.InterestRate", spec := "interestRate", inPlace := ["internal/bytealg.abigen_runtime_cmpstring"], recurses := true, apart := false, narrowed := true }
def InterestRateUptoSaid : Prop := interestRateUptoRow.holds Try.pinned (OpenSpec.upto interestRateSpec)

/-- 'insolvencylaw6.InterestSimple', WHERE WHAT IT READS IS OF BULK AT MOST 1048576: true; the input reads as it did. -/
def interestSimpleUptoRow : OpenClaim := { program := "ytcfejphpflafiaa", sum := "176af56ba811c632920e623ea8741c66b9760496ea49344f95ea0d44d88650d8", func := "insolvency/insolvencylaw6.InterestSimple", spec := "interestSimple", inPlace := ["internal/bytealg.abigen_runtime_cmpstring"], recurses := true, apart := false, narrowed := true }
def InterestSimpleUptoSaid : Prop := interestSimpleUptoRow.holds Try.pinned (OpenSpec.upto interestSimpleSpec)

/-- 'insolvencylaw6.InterestSums', WHERE WHAT IT READS IS OF BULK AT MOST 1048576: true; the input reads as it did. -/
def interestSumsUptoRow : OpenClaim := { program := "ytcfejphpflafiaa", sum := "176af56ba811c632920e623ea8741c66b9760496ea49344f95ea0d44d88650d8", func := "insolvency/insolvencylaw6.InterestSums", spec := "interestSums", inPlace := ["internal/bytealg.abigen_runtime_cmpstring"], recurses := true, apart := false, narrowed := true }
def InterestSumsUptoSaid : Prop := interestSumsUptoRow.holds Try.pinned (OpenSpec.upto interestSumsSpec)

/-- 'insolvencylaw6.InterestCompound', WHERE WHAT IT READS IS OF BULK AT MOST 1048576: true; the input reads as it did. -/
def interestCompoundUptoRow : OpenClaim := { program := "ytcfejphpflafiaa", sum := "176af56ba811c632920e623ea8741c66b9760496ea49344f95ea0d44d88650d8", func := "insolvency/insolvencylaw6.InterestCompound", spec := "interestCompound", inPlace := ["internal/bytealg.abigen_runtime_cmpstring"], recurses := true, apart := false, narrowed := true }
def InterestCompoundUptoSaid : Prop := interestCompoundUptoRow.holds Try.pinned (OpenSpec.upto interestCompoundSpec)

/-- 'insolvencylaw6.InterestPeriods', WHERE WHAT IT READS IS OF BULK AT MOST 1048576: true; the input reads as it did. -/
def interestPeriodsUptoRow : OpenClaim := { program := "ytcfejphpflafiaa", sum := "176af56ba811c632920e623ea8741c66b9760496ea49344f95ea0d44d88650d8", func := "insolvency/insolvencylaw6.InterestPeriods", spec := "interestPeriods", inPlace := ["internal/bytealg.abigen_runtime_cmpstring"], recurses := true, apart := false, narrowed := true }
def InterestPeriodsUptoSaid : Prop := interestPeriodsUptoRow.holds Try.pinned (OpenSpec.upto interestPeriodsSpec)

/-- 'insolvencylaw6.InterestAdditive', WHERE WHAT IT READS IS OF BULK AT MOST 1048576: true; the input reads as it did. -/
def interestAdditiveUptoRow : OpenClaim := { program := "ytcfejphpflafiaa", sum := "176af56ba811c632920e623ea8741c66b9760496ea49344f95ea0d44d88650d8", func := "insolvency/insolvencylaw6.InterestAdditive", spec := "interestAdditive", inPlace := ["internal/bytealg.abigen_runtime_cmpstring"], recurses := true, apart := false, narrowed := true }
def InterestAdditiveUptoSaid : Prop := interestAdditiveUptoRow.holds Try.pinned (OpenSpec.upto interestAdditiveSpec)

/-- 'insolvencylaw6.InterestAtLeast', WHERE WHAT IT READS IS OF BULK AT MOST 1048576: true; the input reads as it did. -/
def interestAtLeastUptoRow : OpenClaim := { program := "ytcfejphpflafiaa", sum := "176af56ba811c632920e623ea8741c66b9760496ea49344f95ea0d44d88650d8", func := "insolvency/insolvencylaw6.InterestAtLeast", spec := "interestAtLeast", inPlace := ["internal/bytealg.abigen_runtime_cmpstring"], recurses := true, apart := false, narrowed := true }
def InterestAtLeastUptoSaid : Prop := interestAtLeastUptoRow.holds Try.pinned (OpenSpec.upto interestAtLeastSpec)

/-- 'insolvencylaw6.InterestChain', WHERE WHAT IT READS IS OF BULK AT MOST 1048576: true; the input reads as it did. -/
def interestChainUptoRow : OpenClaim := { program := "ytcfejphpflafiaa", sum := "176af56ba811c632920e623ea8741c66b9760496ea49344f95ea0d44d88650d8", func := "insolvency/insolvencylaw6.InterestChain", spec := "interestChain", inPlace := ["internal/bytealg.abigen_runtime_cmpstring"], recurses := true, apart := false, narrowed := true }
def InterestChainUptoSaid : Prop := interestChainUptoRow.holds Try.pinned (OpenSpec.upto interestChainSpec)

end Rows
end Go.Proofs.Ytcfejphpflafiaa
