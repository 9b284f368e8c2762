/-
  No cell of these rows narrows 'for every input' (looked for: loops, veiled, ifaces, maps, wideKeys, modest, calm, conditions, laid).
  DERIVED. THE GIVEN ROWS OF THIS SEAT. 7 by the template 'for every input the law returns true; each argument reads behind the call as it read before'; 0 by the template 'total and deterministic' (their statements: YtkdcffcgedhllaaTotals.lean).
  GIVEN WITH THE SEED: the statements are not yours to turn. If you find one false, say at which input.
  Laid BY PROGRAM, IN A SANDBOX (cutbox-rows.mjs): the forced cells as the released guide's own fill.sh prints them over the translation a93890e3bc7ac2a6… (all of the seat's roots in one cut). By AI agents, Wed Nov 11 2026. No macro, syntax, notation, axiom, sorry.
-/
import Derived.Test.YtkdcffcgedhllaaChecked
import GoSem.Claim
import GoSem.ClaimJoined
import GoSem.ClaimMapViews
import Derived.JoinedTies
import Derived.KernelRfl
namespace Go.Proofs.Ytkdcffcgedhllaa
/- THE CELL 'sum', in the pinned program and in every row, IS THE sha256 OF THE DUMP (.gsa) THAT YtkdcffcgedhllaaProg.lean LOADS. Nothing in Lean hashes anything: it is a label: what it is worth is what the hold of that sum in a sandbox is worth. -/
noncomputable def Try.pinned : Pinned := { name := "ytkdcffcgedhllaa", sum := "a93890e3bc7ac2a6586f5d05f7e044711720442054a5f0f841d6192aa4125176", checked := Try.checked }
namespace Rows
def none {H : Type} : Left H := { results := [], args := [] }

/-- 'insolvencylaw7.CurrencyCheck': WHATEVER THE INPUT: true; the input reads as it did. -/
def currencyCheckSpec : ChangeSpec := { name := "currencyCheck", fn := fun _ => fun
  | [d] => { results := [.lit (.bool true)], args := [d] }
  | _ => none }
def currencyCheckRow : OpenClaim := { program := "ytkdcffcgedhllaa", sum := "a93890e3bc7ac2a6586f5d05f7e044711720442054a5f0f841d6192aa4125176", func := "insolvency/insolvencylaw7.CurrencyCheck", spec := "currencyCheck", apart := false }
def CurrencyCheckSaid : Prop := currencyCheckRow.holds Try.pinned (OpenSpec.ofChange currencyCheckSpec)

/-- ITS FALSE NEIGHBOUR: 'it returns false'. Refute it at one input. -/
def currencyCheckWrong : ChangeSpec := { name := "currencyCheck", fn := fun _ => fun
  | [d] => { results := [.lit (.bool false)], args := [d] }
  | _ => none }
def CurrencyCheckWrongFalsely : Prop := currencyCheckRow.holds Try.pinned (OpenSpec.ofChange currencyCheckWrong)

/-- 'insolvencylaw7.CurrencyMany': WHATEVER THE INPUT: true; the input reads as it did. -/
def currencyManySpec : ChangeSpec := { name := "currencyMany", fn := fun _ => fun
  | [d] => { results := [.lit (.bool true)], args := [d] }
  | _ => none }
def currencyManyRow : OpenClaim := { program := "ytkdcffcgedhllaa", sum := "a93890e3bc7ac2a6586f5d05f7e044711720442054a5f0f841d6192aa4125176", func := "insolvency/insolvencylaw7.CurrencyMany", spec := "currencyMany", apart := false }
def CurrencyManySaid : Prop := currencyManyRow.holds Try.pinned (OpenSpec.ofChange currencyManySpec)

/-- ITS FALSE NEIGHBOUR: 'it returns false'. Refute it at one input. -/
def currencyManyWrong : ChangeSpec := { name := "currencyMany", fn := fun _ => fun
  | [d] => { results := [.lit (.bool false)], args := [d] }
  | _ => none }
def CurrencyManyWrongFalsely : Prop := currencyManyRow.holds Try.pinned (OpenSpec.ofChange currencyManyWrong)

/-- 'insolvencylaw7.CurrencyRate': WHATEVER THE INPUT: true; the input reads as it did. -/
def currencyRateSpec : ChangeSpec := { name := "currencyRate", fn := fun _ => fun
  | [d1, d2, d3] => { results := [.lit (.bool true)], args := [d1, d2, d3] }
  | _ => none }
def currencyRateRow : OpenClaim := { program := "ytkdcffcgedhllaa", sum := "a93890e3bc7ac2a6586f5d05f7e044711720442054a5f0f841d6192aa4125176", func := "insolvency/insolvencylaw7.CurrencyRate", spec := "currencyRate", apart := false }
def CurrencyRateSaid : Prop := currencyRateRow.holds Try.pinned (OpenSpec.ofChange currencyRateSpec)

/-- ITS FALSE NEIGHBOUR: 'it returns false'. Refute it at one input. -/
def currencyRateWrong : ChangeSpec := { name := "currencyRate", fn := fun _ => fun
  | [d1, d2, d3] => { results := [.lit (.bool false)], args := [d1, d2, d3] }
  | _ => none }
def CurrencyRateWrongFalsely : Prop := currencyRateRow.holds Try.pinned (OpenSpec.ofChange currencyRateWrong)

/-- 'insolvencylaw7.CurrencyConvert': WHATEVER THE INPUT: true; the input reads as it did. -/
def currencyConvertSpec : ChangeSpec := { name := "currencyConvert", fn := fun _ => fun
  | [d1, d2, d3, d4, d5] => { results := [.lit (.bool true)], args := [d1, d2, d3, d4, d5] }
  | _ => none }
def currencyConvertRow : OpenClaim := { program := "ytkdcffcgedhllaa", sum := "a93890e3bc7ac2a6586f5d05f7e044711720442054a5f0f841d6192aa4125176", func := "insolvency/insolvencylaw7.CurrencyConvert", spec := "currencyConvert", apart := false }
def CurrencyConvertSaid : Prop := currencyConvertRow.holds Try.pinned (OpenSpec.ofChange currencyConvertSpec)

/-- ITS FALSE NEIGHBOUR: 'it returns false'. Refute it at one input. -/
def currencyConvertWrong : ChangeSpec := { name := "currencyConvert", fn := fun _ => fun
  | [d1, d2, d3, d4, d5] => { results := [.lit (.bool false)], args := [d1, d2, d3, d4, d5] }
  | _ => none }
def CurrencyConvertWrongFalsely : Prop := currencyConvertRow.holds Try.pinned (OpenSpec.ofChange currencyConvertWrong)

/-- 'insolvencylaw7.CurrencyQuoted': WHATEVER THE INPUT: true; the input reads as it did. -/
def currencyQuotedSpec : ChangeSpec := { name := "currencyQuoted", fn := fun _ => fun
  | [d1, d2, d3, d4, d5] => { results := [.lit (.bool true)], args := [d1, d2, d3, d4, d5] }
  | _ => none }
def currencyQuotedRow : OpenClaim := { program := "ytkdcffcgedhllaa", sum := "a93890e3bc7ac2a6586f5d05f7e044711720442054a5f0f841d6192aa4125176", func := "insolvency/insolvencylaw7.CurrencyQuoted", spec := "currencyQuoted", apart := false }
def CurrencyQuotedSaid : Prop := currencyQuotedRow.holds Try.pinned (OpenSpec.ofChange currencyQuotedSpec)

/-- ITS FALSE NEIGHBOUR: 'it returns false'. Refute it at one input. -/
def currencyQuotedWrong : ChangeSpec := { name := "currencyQuoted", fn := fun _ => fun
  | [d1, d2, d3, d4, d5] => { results := [.lit (.bool false)], args := [d1, d2, d3, d4, d5] }
  | _ => none }
def CurrencyQuotedWrongFalsely : Prop := currencyQuotedRow.holds Try.pinned (OpenSpec.ofChange currencyQuotedWrong)

/-- 'insolvencylaw7.CurrencyLatest': WHATEVER THE INPUT: true; the input reads as it did. -/
def currencyLatestSpec : ChangeSpec := { name := "currencyLatest", fn := fun _ => fun
  | [d1, d2, d3] => { results := [.lit (.bool true)], args := [d1, d2, d3] }
  | _ => none }
def currencyLatestRow : OpenClaim := { program := "ytkdcffcgedhllaa", sum := "a93890e3bc7ac2a6586f5d05f7e044711720442054a5f0f841d6192aa4125176", func := "insolvency/insolvencylaw7.CurrencyLatest", spec := "currencyLatest", apart := false }
def CurrencyLatestSaid : Prop := currencyLatestRow.holds Try.pinned (OpenSpec.ofChange currencyLatestSpec)

/-- ITS FALSE NEIGHBOUR: 'it returns false'. Refute it at one input. -/
def currencyLatestWrong : ChangeSpec := { name := "currencyLatest", fn := fun _ => fun
  | [d1, d2, d3] => { results := [.lit (.bool false)], args := [d1, d2, d3] }
  | _ => none }
def CurrencyLatestWrongFalsely : Prop := currencyLatestRow.holds Try.pinned (OpenSpec.ofChange currencyLatestWrong)

/-- 'insolvencylaw7.CurrencyBack': WHATEVER THE INPUT: true; the input reads as it did. -/
def currencyBackSpec : ChangeSpec := { name := "currencyBack", fn := fun _ => fun
  | [d1, d2, d3, d4, d5, d6] => { results := [.lit (.bool true)], args := [d1, d2, d3, d4, d5, d6] }
  | _ => none }
def currencyBackRow : OpenClaim := { program := "ytkdcffcgedhllaa", sum := "a93890e3bc7ac2a6586f5d05f7e044711720442054a5f0f841d6192aa4125176", func := "insolvency/insolvencylaw7.CurrencyBack", spec := "currencyBack", apart := false }
def CurrencyBackSaid : Prop := currencyBackRow.holds Try.pinned (OpenSpec.ofChange currencyBackSpec)

/-- ITS FALSE NEIGHBOUR: 'it returns false'. Refute it at one input. -/
def currencyBackWrong : ChangeSpec := { name := "currencyBack", fn := fun _ => fun
  | [d1, d2, d3, d4, d5, d6] => { results := [.lit (.bool false)], args := [d1, d2, d3, d4, d5, d6] }
  | _ => none }
def CurrencyBackWrongFalsely : Prop := currencyBackRow.holds Try.pinned (OpenSpec.ofChange currencyBackWrong)

/- THE SECOND FORM. 'bulk': how many values and letters a reading holds, each counted each time it is reached (what is shared counts as often as it is met; a slice's spare places count too). A statement '..UptoSaid' is the law's where the arguments, and the package variables that the reading takes, are together of bulk at most 1048576: NARROWER than '..Said'. Prove '..Said' where nothing that the law and all that it calls make is longer than what came in: it says more and counts as full. Else prove '..UptoSaid'. A law counts once. -/
mutual
def uptoBulk {H : Type} : DataW H → Nat
  | .lit (.string bytes) => bytes.length + 1
  | .lit _ => 1
  | .nil => 1
  | .ptr d => uptoBulk d + 1
  | .slice elems spare => uptoBulkAll elems + uptoBulkAll spare + 1
  | .agg parts => uptoBulkAll parts + 1
  | .iface _ d => uptoBulk d + 1
  | .map entries => uptoBulkEntries entries + 1
  | .held _ => 1
def uptoBulkAll {H : Type} : List (DataW H) → Nat
  | [] => 0
  | d :: r => uptoBulk d + uptoBulkAll r
def uptoBulkEntries {H : Type} : List (Lit × DataW H) → Nat
  | [] => 0
  | x :: r => uptoBulkEntry x + uptoBulkEntries r
def uptoBulkEntry {H : Type} : Lit × DataW H → Nat
  | (.string bytes, d) => bytes.length + uptoBulk d + 1
  | (_, d) => uptoBulk d + 1
 end
def uptoSmall : (H : Type) → List (DataW H) → Bool := fun _ ds => decide (uptoBulkAll ds ≤ 1048576)
def OpenSpec.upto (s : _root_.Go.ChangeSpec) : _root_.Go.OpenSpec := { _root_.Go.OpenSpec.ofChange s with cond := some uptoSmall }

/-- 'insolvencylaw7.CurrencyCheck', WHERE WHAT IT READS IS OF BULK AT MOST 1048576: true; the input reads as it did. -/
def currencyCheckUptoRow : OpenClaim := { program := "ytkdcffcgedhllaa", sum := "a93890e3bc7ac2a6586f5d05f7e044711720442054a5f0f841d6192aa4125176", func := "insolvency/insolvencylaw7.CurrencyCheck", spec := "currencyCheck", apart := false, narrowed := true }
def CurrencyCheckUptoSaid : Prop := currencyCheckUptoRow.holds Try.pinned (OpenSpec.upto currencyCheckSpec)

/-- 'insolvencylaw7.CurrencyMany', WHERE WHAT IT READS IS OF BULK AT MOST 1048576: true; the input reads as it did. -/
def currencyManyUptoRow : OpenClaim := { program := "ytkdcffcgedhllaa", sum := "a93890e3bc7ac2a6586f5d05f7e044711720442054a5f0f841d6192aa4125176", func := "insolvency/insolvencylaw7.CurrencyMany", spec := "currencyMany", apart := false, narrowed := true }
def CurrencyManyUptoSaid : Prop := currencyManyUptoRow.holds Try.pinned (OpenSpec.upto currencyManySpec)

/-- 'insolvencylaw7.CurrencyRate', WHERE WHAT IT READS IS OF BULK AT MOST 1048576: true; the input reads as it did. -/
def currencyRateUptoRow : OpenClaim := { program := "ytkdcffcgedhllaa", sum := "a93890e3bc7ac2a6586f5d05f7e044711720442054a5f0f841d6192aa4125176", func := "insolvency/insolvencylaw7.CurrencyRate", spec := "currencyRate", apart := false, narrowed := true }
def CurrencyRateUptoSaid : Prop := currencyRateUptoRow.holds Try.pinned (OpenSpec.upto currencyRateSpec)

/-- 'insolvencylaw7.CurrencyConvert', WHERE WHAT IT READS IS OF BULK AT MOST 1048576: true; the input reads as it did. -/
def currencyConvertUptoRow : OpenClaim := { program := "ytkdcffcgedhllaa", sum := "a93890e3bc7ac2a6586f5d05f7e044711720442054a5f0f841d6192aa4125176", func := "insolvency/insolvencylaw7.CurrencyConvert", spec := "currencyConvert", apart := false, narrowed := true }
def CurrencyConvertUptoSaid : Prop := currencyConvertUptoRow.holds Try.pinned (OpenSpec.upto currencyConvertSpec)

/-- 'insolvencylaw7.CurrencyQuoted', WHERE WHAT IT READS IS OF BULK AT MOST 1048576: true; the input reads as it did. -/
def currencyQuotedUptoRow : OpenClaim := { program := "ytkdcffcgedhllaa", sum := "a93890e3bc7ac2a6586f5d05f7e044711720442054a5f0f841d6192aa4125176", func := "insolvency/insolvencylaw7.CurrencyQuoted", spec := "currencyQuoted", apart := false, narrowed := true }
def CurrencyQuotedUptoSaid : Prop := currencyQuotedUptoRow.holds Try.pinned (OpenSpec.upto currencyQuotedSpec)

/-- 'insolvencylaw7.CurrencyLatest', WHERE WHAT IT READS IS OF BULK AT MOST 1048576: true; the input reads as it did. -/
def currencyLatestUptoRow : OpenClaim := { program := "ytkdcffcgedhllaa", sum := "a93890e3bc7ac2a6586f5d05f7e044711720442054a5f0f841d6192aa4125176", func := "insolvency/insolvencylaw7.CurrencyLatest", spec := "currencyLatest", apart := false, narrowed := true }
def CurrencyLatestUptoSaid : Prop := currencyLatestUptoRow.holds Try.pinned (OpenSpec.upto currencyLatestSpec)

/-- 'insolvencylaw7.CurrencyBack', WHERE WHAT IT READS IS OF BULK AT MOST 1048576: true; the input reads as it did. -/
def currencyBackUptoRow : OpenClaim := { program := "ytkdcffcgedhllaa", sum := "a93890e3bc7ac2a6586f5d05f7e044711720442054a5f0f841d6192aa4125176", func := "insolvency/insolvencylaw7.CurrencyBack", spec := "currencyBack", apart := false, narrowed := true }
def CurrencyBackUptoSaid : Prop := currencyBackUptoRow.holds Try.pinned (OpenSpec.upto currencyBackSpec)

end Rows
end Go.Proofs.Ytkdcffcgedhllaa
