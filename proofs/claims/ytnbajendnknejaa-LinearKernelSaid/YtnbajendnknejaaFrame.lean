/-
  The frame of the laws: imports, the witness's world, facts on the program that every card asks.
-/
import Derived.Test.YtnbajendnknejaaGF
import Derived.Test.YtnbajendnknejaaRows
import Derived.ProofKit
import Derived.ShutString
import Derived.PinnedBridge
import Derived.Lay
import Derived.LaidOnce
import Derived.SevenTiedAt
namespace Go.Proofs.Ytnbajendnknejaa
open Go.RowKit Nd

theorem own : ownKnob Try.prog.godebug = none := by kernel_rfl
def laid : List (String × DataW Unit) := Rows.linearApplyRow.laid
set_option maxRecDepth 100000 in
theorem wit_shaped (os : Os) (args : Array Value) : ((World.laidAll Try.prog os laid).forCall (fun _ _ => 0) ⟨#[], args, []⟩).Shaped Try.prog :=
  World.shaped_of_ZipB (by kernel_rfl) (by kernel_rfl)
set_option maxRecDepth 100000 in
theorem wit_laid (os : Os) (args : Array Value) : laidMetH Try.prog laid ((World.laidAll Try.prog os laid).forCall (fun _ _ => 0) ⟨#[], args, []⟩).memory := by
  rw [MakeChecks.laidMetH_plain _ _ _ (by kernel_rfl)]; exact laidMet_laidAll _ (by kernel_rfl) (by kernel_rfl)
theorem looks_nil : false = Try.prog.looks [] := by kernel_rfl
theorem no_stand_in : ([9, 5].all fun u => !Try.prog.wantsStandIn u) = true := by kernel_rfl

end Go.Proofs.Ytnbajendnknejaa
