/-
  No cell of these rows narrows 'for every input' (looked for: loops, veiled, ifaces, maps, wideKeys, modest, calm, conditions, laid).
  DERIVED. THE GIVEN ROWS OF THIS SEAT. 9 by the template 'for every input the law returns true; each argument reads behind the call as it read before'; 0 by the template 'total and deterministic' (their statements: YtgdpcpbmjgaliaaTotals.lean).
  GIVEN WITH THE SEED: the statements are not yours to turn. If you find one false, say at which input.
  Laid BY PROGRAM, IN A SANDBOX (cutbox-rows.mjs): the forced cells as the released guide's own fill.sh prints them over the translation dfa79782d657ede9… (all of the seat's roots in one cut). By AI agents, Wed Nov 11 2026. No macro, syntax, notation, axiom, sorry.
-/
import Derived.Test.YtgdpcpbmjgaliaaChecked
import GoSem.Claim
import GoSem.ClaimJoined
import GoSem.ClaimMapViews
import Derived.JoinedTies
import Derived.KernelRfl
namespace Go.Proofs.Ytgdpcpbmjgaliaa
/- THE CELL 'sum', in the pinned program and in every row, IS THE sha256 OF THE DUMP (.gsa) THAT YtgdpcpbmjgaliaaProg.lean LOADS. Nothing in Lean hashes anything: it is a label: what it is worth is what the hold of that sum in a sandbox is worth. -/
noncomputable def Try.pinned : Pinned := { name := "ytgdpcpbmjgaliaa", sum := "dfa79782d657ede94d2ca4f0f8867aaea71d152960f7249eb6eaa7c9e417ddc3", checked := Try.checked }
namespace Rows
def none {H : Type} : Left H := { results := [], args := [] }

/-- 'insolvencylaw8.PartyCheck': WHATEVER THE INPUT: true; the input reads as it did. -/
def partyCheckSpec : ChangeSpec := { name := "partyCheck", fn := fun _ => fun
  | [d] => { results := [.lit (.bool true)], args := [d] }
  | _ => none }
def partyCheckRow : OpenClaim := { program := "ytgdpcpbmjgaliaa", sum := "dfa79782d657ede94d2ca4f0f8867aaea71d152960f7249eb6eaa7c9e417ddc3", func := "insolvency/insolvencylaw8.PartyCheck", spec := "partyCheck", inPlace := ["internal/bytealg.abigen_runtime_cmpstring"], apart := false }
def PartyCheckSaid : Prop := partyCheckRow.holds Try.pinned (OpenSpec.ofChange partyCheckSpec)

/-- ITS FALSE NEIGHBOUR: 'it returns false'. Refute it at one input. -/
def partyCheckWrong : ChangeSpec := { name := "partyCheck", fn := fun _ => fun
  | [d] => { results := [.lit (.bool false)], args := [d] }
  | _ => none }
def PartyCheckWrongFalsely : Prop := partyCheckRow.holds Try.pinned (OpenSpec.ofChange partyCheckWrong)

/-- 'insolvencylaw8.PartyMany': WHATEVER THE INPUT: true; the input reads as it did. -/
def partyManySpec : ChangeSpec := { name := "partyMany", fn := fun _ => fun
  | [d1, d2, d3] => { results := [.lit (.bool true)], args := [d1, d2, d3] }
  | _ => none }
def partyManyRow : OpenClaim := { program := "ytgdpcpbmjgaliaa", sum := "dfa79782d657ede94d2ca4f0f8867aaea71d152960f7249eb6eaa7c9e417ddc3", func := "insolvency/insolvencylaw8.PartyMany", spec := "partyMany", inPlace := ["internal/bytealg.abigen_runtime_cmpstring"], apart := false }
def PartyManySaid : Prop := partyManyRow.holds Try.pinned (OpenSpec.ofChange partyManySpec)

/-- ITS FALSE NEIGHBOUR: 'it returns false'. Refute it at one input. -/
def partyManyWrong : ChangeSpec := { name := "partyMany", fn := fun _ => fun
  | [d1, d2, d3] => { results := [.lit (.bool false)], args := [d1, d2, d3] }
  | _ => none }
def PartyManyWrongFalsely : Prop := partyManyRow.holds Try.pinned (OpenSpec.ofChange partyManyWrong)

/-- 'insolvencylaw8.PartyControlled': WHATEVER THE INPUT: true; the input reads as it did. -/
def partyControlledSpec : ChangeSpec := { name := "partyControlled", fn := fun _ => fun
  | [d1, d2, d3] => { results := [.lit (.bool true)], args := [d1, d2, d3] }
  | _ => none }
def partyControlledRow : OpenClaim := { program := "ytgdpcpbmjgaliaa", sum := "dfa79782d657ede94d2ca4f0f8867aaea71d152960f7249eb6eaa7c9e417ddc3", func := "insolvency/insolvencylaw8.PartyControlled", spec := "partyControlled", inPlace := ["internal/bytealg.abigen_runtime_cmpstring"], apart := false }
def PartyControlledSaid : Prop := partyControlledRow.holds Try.pinned (OpenSpec.ofChange partyControlledSpec)

/-- ITS FALSE NEIGHBOUR: 'it returns false'. Refute it at one input. -/
def partyControlledWrong : ChangeSpec := { name := "partyControlled", fn := fun _ => fun
  | [d1, d2, d3] => { results := [.lit (.bool false)], args := [d1, d2, d3] }
  | _ => none }
def PartyControlledWrongFalsely : Prop := partyControlledRow.holds Try.pinned (OpenSpec.ofChange partyControlledWrong)

/-- 'insolvencylaw8.PartyConnected': WHATEVER THE INPUT: true; the input reads as it did. -/
def partyConnectedSpec : ChangeSpec := { name := "partyConnected", fn := fun _ => fun
  | [d1, d2, d3] => { results := [.lit (.bool true)], args := [d1, d2, d3] }
  | _ => none }
def partyConnectedRow : OpenClaim := { program := "ytgdpcpbmjgaliaa", sum := "dfa79782d657ede94d2ca4f0f8867aaea71d152960f7249eb6eaa7c9e417ddc3", func := "insolvency/insolvencylaw8.PartyConnected", spec := "partyConnected", inPlace := ["internal/bytealg.abigen_runtime_cmpstring"], apart := false }
def PartyConnectedSaid : Prop := partyConnectedRow.holds Try.pinned (OpenSpec.ofChange partyConnectedSpec)

/-- ITS FALSE NEIGHBOUR: 'it returns false'. Refute it at one input. -/
def partyConnectedWrong : ChangeSpec := { name := "partyConnected", fn := fun _ => fun
  | [d1, d2, d3] => { results := [.lit (.bool false)], args := [d1, d2, d3] }
  | _ => none }
def PartyConnectedWrongFalsely : Prop := partyConnectedRow.holds Try.pinned (OpenSpec.ofChange partyConnectedWrong)

/-- 'insolvencylaw8.PartyBuilt': WHATEVER THE INPUT: true; the input reads as it did. -/
def partyBuiltSpec : ChangeSpec := { name := "partyBuilt", fn := fun _ => fun
  | [d1, d2, d3, d4] => { results := [.lit (.bool true)], args := [d1, d2, d3, d4] }
  | _ => none }
def partyBuiltRow : OpenClaim := { program := "ytgdpcpbmjgaliaa", sum := "dfa79782d657ede94d2ca4f0f8867aaea71d152960f7249eb6eaa7c9e417ddc3", func := "insolvency/insolvencylaw8.PartyBuilt", spec := "partyBuilt", inPlace := ["internal/bytealg.abigen_runtime_cmpstring"], apart := false }
def PartyBuiltSaid : Prop := partyBuiltRow.holds Try.pinned (OpenSpec.ofChange partyBuiltSpec)

/-- ITS FALSE NEIGHBOUR: 'it returns false'. Refute it at one input. -/
def partyBuiltWrong : ChangeSpec := { name := "partyBuilt", fn := fun _ => fun
  | [d1, d2, d3, d4] => { results := [.lit (.bool false)], args := [d1, d2, d3, d4] }
  | _ => none }
def PartyBuiltWrongFalsely : Prop := partyBuiltRow.holds Try.pinned (OpenSpec.ofChange partyBuiltWrong)

/-- 'insolvencylaw8.PartyFixpoint': WHATEVER THE INPUT: true; the input reads as it did. -/
def partyFixpointSpec : ChangeSpec := { name := "partyFixpoint", fn := fun _ => fun
  | [d1, d2, d3, d4] => { results := [.lit (.bool true)], args := [d1, d2, d3, d4] }
  | _ => none }
def partyFixpointRow : OpenClaim := { program := "ytgdpcpbmjgaliaa", sum := "dfa79782d657ede94d2ca4f0f8867aaea71d152960f7249eb6eaa7c9e417ddc3", func := "insolvency/insolvencylaw8.PartyFixpoint", spec := "partyFixpoint", inPlace := ["internal/bytealg.abigen_runtime_cmpstring"], apart := false }
def PartyFixpointSaid : Prop := partyFixpointRow.holds Try.pinned (OpenSpec.ofChange partyFixpointSpec)

/-- ITS FALSE NEIGHBOUR: 'it returns false'. Refute it at one input. -/
def partyFixpointWrong : ChangeSpec := { name := "partyFixpoint", fn := fun _ => fun
  | [d1, d2, d3, d4] => { results := [.lit (.bool false)], args := [d1, d2, d3, d4] }
  | _ => none }
def PartyFixpointWrongFalsely : Prop := partyFixpointRow.holds Try.pinned (OpenSpec.ofChange partyFixpointWrong)

/-- 'insolvencylaw8.PartyMore': WHATEVER THE INPUT: true; the input reads as it did. -/
def partyMoreSpec : ChangeSpec := { name := "partyMore", fn := fun _ => fun
  | [d1, d2, d3, d4, d5] => { results := [.lit (.bool true)], args := [d1, d2, d3, d4, d5] }
  | _ => none }
def partyMoreRow : OpenClaim := { program := "ytgdpcpbmjgaliaa", sum := "dfa79782d657ede94d2ca4f0f8867aaea71d152960f7249eb6eaa7c9e417ddc3", func := "insolvency/insolvencylaw8.PartyMore", spec := "partyMore", inPlace := ["internal/bytealg.abigen_runtime_cmpstring"], apart := false }
def PartyMoreSaid : Prop := partyMoreRow.holds Try.pinned (OpenSpec.ofChange partyMoreSpec)

/-- ITS FALSE NEIGHBOUR: 'it returns false'. Refute it at one input. -/
def partyMoreWrong : ChangeSpec := { name := "partyMore", fn := fun _ => fun
  | [d1, d2, d3, d4, d5] => { results := [.lit (.bool false)], args := [d1, d2, d3, d4, d5] }
  | _ => none }
def PartyMoreWrongFalsely : Prop := partyMoreRow.holds Try.pinned (OpenSpec.ofChange partyMoreWrong)

/-- 'insolvencylaw8.PartyChain': WHATEVER THE INPUT: true; the input reads as it did. -/
def partyChainSpec : ChangeSpec := { name := "partyChain", fn := fun _ => fun
  | [d1, d2, d3] => { results := [.lit (.bool true)], args := [d1, d2, d3] }
  | _ => none }
def partyChainRow : OpenClaim := { program := "ytgdpcpbmjgaliaa", sum := "dfa79782d657ede94d2ca4f0f8867aaea71d152960f7249eb6eaa7c9e417ddc3", func := "insolvency/insolvencylaw8.PartyChain", spec := "partyChain", inPlace := ["internal/bytealg.abigen_runtime_cmpstring"], apart := false }
def PartyChainSaid : Prop := partyChainRow.holds Try.pinned (OpenSpec.ofChange partyChainSpec)

/-- ITS FALSE NEIGHBOUR: 'it returns false'. Refute it at one input. -/
def partyChainWrong : ChangeSpec := { name := "partyChain", fn := fun _ => fun
  | [d1, d2, d3] => { results := [.lit (.bool false)], args := [d1, d2, d3] }
  | _ => none }
def PartyChainWrongFalsely : Prop := partyChainRow.holds Try.pinned (OpenSpec.ofChange partyChainWrong)

/-- 'insolvencylaw8.PartySymmetric': WHATEVER THE INPUT: true; the input reads as it did. -/
def partySymmetricSpec : ChangeSpec := { name := "partySymmetric", fn := fun _ => fun
  | [d1, d2, d3, d4] => { results := [.lit (.bool true)], args := [d1, d2, d3, d4] }
  | _ => none }
def partySymmetricRow : OpenClaim := { program := "ytgdpcpbmjgaliaa", sum := "dfa79782d657ede94d2ca4f0f8867aaea71d152960f7249eb6eaa7c9e417ddc3", func := "insolvency/insolvencylaw8.PartySymmetric", spec := "partySymmetric", inPlace := ["internal/bytealg.abigen_runtime_cmpstring"], apart := false }
def PartySymmetricSaid : Prop := partySymmetricRow.holds Try.pinned (OpenSpec.ofChange partySymmetricSpec)

/-- ITS FALSE NEIGHBOUR: 'it returns false'. Refute it at one input. -/
def partySymmetricWrong : ChangeSpec := { name := "partySymmetric", fn := fun _ => fun
  | [d1, d2, d3, d4] => { results := [.lit (.bool false)], args := [d1, d2, d3, d4] }
  | _ => none }
def PartySymmetricWrongFalsely : Prop := partySymmetricRow.holds Try.pinned (OpenSpec.ofChange partySymmetricWrong)

/- THE SECOND FORM. 'bulk': how many values and letters a reading holds, each counted each time it is reached (what is shared counts as often as it is met; a slice's spare places count too). A statement '..UptoSaid' is the law's where the arguments, and the package variables that the reading takes, are together of bulk at most 1048576: NARROWER than '..Said'. Prove '..Said' where nothing that the law and all that it calls make is longer than what came in: it says more and counts as full. Else prove '..UptoSaid'. A law counts once. -/
mutual
def uptoBulk {H : Type} : DataW H → Nat
  | .lit (.string bytes) => bytes.length + 1
  | .lit _ => 1
  | .nil => 1
  | .ptr d => uptoBulk d + 1
  | .slice elems spare => uptoBulkAll elems + uptoBulkAll spare + 1
  | .agg parts => uptoBulkAll parts + 1
  | .iface _ d => uptoBulk d + 1
  | .map entries => uptoBulkEntries entries + 1
  | .held _ => 1
def uptoBulkAll {H : Type} : List (DataW H) → Nat
  | [] => 0
  | d :: r => uptoBulk d + uptoBulkAll r
def uptoBulkEntries {H : Type} : List (Lit × DataW H) → Nat
  | [] => 0
  | x :: r => uptoBulkEntry x + uptoBulkEntries r
def uptoBulkEntry {H : Type} : Lit × DataW H → Nat
  | (.string bytes, d) => bytes.length + uptoBulk d + 1
  | (_, d) => uptoBulk d + 1
 end
def uptoSmall : (H : Type) → List (DataW H) → Bool := fun _ ds => decide (uptoBulkAll ds ≤ 1048576)
def OpenSpec.upto (s : _root_.Go.ChangeSpec) : _root_.Go.OpenSpec := { _root_.Go.OpenSpec.ofChange s with cond := some uptoSmall }

/-- 'insolvencylaw8.PartyCheck', WHERE WHAT IT READS IS OF BULK AT MOST 1048576: true; the input reads as it did. -/
def partyCheckUptoRow : OpenClaim := { program := "ytgdpcpbmjgaliaa", sum := "dfa79782d657ede94d2ca4f0f8867aaea71d152960f7249eb6eaa7c9e417ddc3", func := "insolvency/insolvencylaw8.PartyCheck", spec := "partyCheck", inPlace := ["internal/bytealg.abigen_runtime_cmpstring"], apart := false, narrowed := true }
def PartyCheckUptoSaid : Prop := partyCheckUptoRow.holds Try.pinned (OpenSpec.upto partyCheckSpec)

/-- 'insolvencylaw8.PartyMany', WHERE WHAT IT READS IS OF BULK AT MOST 1048576: true; the input reads as it did. -/
def partyManyUptoRow : OpenClaim := { program := "ytgdpcpbmjgaliaa", sum := "dfa79782d657ede94d2ca4f0f8867aaea71d152960f7249eb6eaa7c9e417ddc3", func := "insolvency/insolvencylaw8.PartyMany", spec := "partyMany", inPlace := ["internal/bytealg.abigen_runtime_cmpstring"], apart := false, narrowed := true }
def PartyManyUptoSaid : Prop := partyManyUptoRow.holds Try.pinned (OpenSpec.upto partyManySpec)

/-- 'insolvencylaw8.PartyControlled', WHERE WHAT IT READS IS OF BULK AT MOST 1048576: true; the input reads as it did. -/
def partyControlledUptoRow : OpenClaim := { program := "ytgdpcpbmjgaliaa", sum := "dfa79782d657ede94d2ca4f0f8867aaea71d152960f7249eb6eaa7c9e417ddc3", func := "insolvency/insolvencylaw8.PartyControlled", spec := "partyControlled", inPlace := ["internal/bytealg.abigen_runtime_cmpstring"], apart := false, narrowed := true }
def PartyControlledUptoSaid : Prop := partyControlledUptoRow.holds Try.pinned (OpenSpec.upto partyControlledSpec)

/-- 'insolvencylaw8.PartyConnected', WHERE WHAT IT READS IS OF BULK AT MOST 1048576: true; the input reads as it did. -/
def partyConnectedUptoRow : OpenClaim := { program := "ytgdpcpbmjgaliaa", sum := "dfa79782d657ede94d2ca4f0f8867aaea71d152960f7249eb6eaa7c9e417ddc3", func := "insolvency/insolvencylaw8.PartyConnected", spec := "partyConnected", inPlace := ["internal/bytealg.abigen_runtime_cmpstring"], apart := false, narrowed := true }
def PartyConnectedUptoSaid : Prop := partyConnectedUptoRow.holds Try.pinned (OpenSpec.upto partyConnectedSpec)

/-- 'insolvencylaw8.PartyBuilt', WHERE WHAT IT READS IS OF BULK AT MOST 1048576: true; the input reads as it did. -/
def partyBuiltUptoRow : OpenClaim := { program := "ytgdpcpbmjgaliaa", sum := "dfa79782d657ede94d2ca4f0f8867aaea71d152960f7249eb6eaa7c9e417ddc3", func := "insolvency/insolvencylaw8.PartyBuilt", spec := "partyBuilt", inPlace := ["internal/bytealg.abigen_runtime_cmpstring"], apart := false, narrowed := true }
def PartyBuiltUptoSaid : Prop := partyBuiltUptoRow.holds Try.pinned (OpenSpec.upto partyBuiltSpec)

/-- 'insolvencylaw8.PartyFixpoint', WHERE WHAT IT READS IS OF BULK AT MOST 1048576: true; the input reads as it did. -/
def partyFixpointUptoRow : OpenClaim := { program := "ytgdpcpbmjgaliaa", sum := "dfa79782d657ede94d2ca4f0f8867aaea71d152960f7249eb6eaa7c9e417ddc3", func := "insolvency/insolvencylaw8.PartyFixpoint", spec := "partyFixpoint", inPlace := ["internal/bytealg.abigen_runtime_cmpstring"], apart := false, narrowed := true }
def PartyFixpointUptoSaid : Prop := partyFixpointUptoRow.holds Try.pinned (OpenSpec.upto partyFixpointSpec)

/-- 'insolvencylaw8.PartyMore', WHERE WHAT IT READS IS OF BULK AT MOST 1048576: true; the input reads as it did. -/
def partyMoreUptoRow : OpenClaim := { program := "ytgdpcpbmjgaliaa", sum := "dfa79782d657ede94d2ca4f0f8867aaea71d152960f7249eb6eaa7c9e417ddc3", func := "insolvency/insolvencylaw8.PartyMore", spec := "partyMore", inPlace := ["internal/bytealg.abigen_runtime_cmpstring"], apart := false, narrowed := true }
def PartyMoreUptoSaid : Prop := partyMoreUptoRow.holds Try.pinned (OpenSpec.upto partyMoreSpec)

/-- 'insolvencylaw8.PartyChain', WHERE WHAT IT READS IS OF BULK AT MOST 1048576: true; the input reads as it did. -/
def partyChainUptoRow : OpenClaim := { program := "ytgdpcpbmjgaliaa", sum := "dfa79782d657ede94d2ca4f0f8867aaea71d152960f7249eb6eaa7c9e417ddc3", func := "insolvency/insolvencylaw8.PartyChain", spec := "partyChain", inPlace := ["internal/bytealg.abigen_runtime_cmpstring"], apart := false, narrowed := true }
def PartyChainUptoSaid : Prop := partyChainUptoRow.holds Try.pinned (OpenSpec.upto partyChainSpec)

/-- 'insolvencylaw8.PartySymmetric', WHERE WHAT IT READS IS OF BULK AT MOST 1048576: true; the input reads as it did. -/
def partySymmetricUptoRow : OpenClaim := { program := "ytgdpcpbmjgaliaa", sum := "dfa79782d657ede94d2ca4f0f8867aaea71d152960f7249eb6eaa7c9e417ddc3", func := "insolvency/insolvencylaw8.PartySymmetric", spec := "partySymmetric", inPlace := ["internal/bytealg.abigen_runtime_cmpstring"], apart := false, narrowed := true }
def PartySymmetricUptoSaid : Prop := partySymmetricUptoRow.holds Try.pinned (OpenSpec.upto partySymmetricSpec)

end Rows
end Go.Proofs.Ytgdpcpbmjgaliaa
