/-
  The frame of the laws: imports, the witness's world, facts on the program that every card asks.
-/
import Derived.Test.YtlhmimbooampdaaGreatDoorGF
import Derived.Test.YtlhmimbooampdaaGreatDoorRows
import Derived.Test.YtlhmimbooampdaaGreatDoorTie
import Derived.Test.YtlhmimbooampdaaGreatDoorCards
import Derived.ProofKit
import Derived.ShutString
import Derived.PinnedBridge
import Derived.Lay
import Derived.LaidOnce
import Derived.SevenTiedAt
namespace Go.Proofs.YtlhmimbooampdaaGreatDoor
open Go.RowKit Nd

theorem own : ownKnob Tryz.prog.godebug = none := by kernel_rfl
def laid : List (String × DataW Unit) := Rows.rationalSumRow.laid
set_option maxRecDepth 100000 in
theorem wit_shaped (os : Os) (args : Array Value) : ((World.laidAll Tryz.prog os laid).forCall (fun _ _ => 0) ⟨#[], args, []⟩).Shaped Tryz.prog :=
  World.shaped_of_ZipB (by kernel_rfl) (by kernel_rfl)
set_option maxRecDepth 100000 in
theorem wit_laid (os : Os) (args : Array Value) : laidMetH Tryz.prog laid ((World.laidAll Tryz.prog os laid).forCall (fun _ _ => 0) ⟨#[], args, []⟩).memory := by
  rw [MakeChecks.laidMetH_plain _ _ _ (by kernel_rfl)]; exact laidMet_laidAll _ (by kernel_rfl) (by kernel_rfl)
theorem main_is : Tryz.prog.mainIs = some (true, "d5fc8b0a091cdada0fb83d334354e99fbdf7b9981efb58ba15fe368e10064b70".toList) := by kernel_rfl
theorem looks_nil : false = Tryz.prog.looks [] := by kernel_rfl
theorem no_stand_in : ([9, 5].all fun u => !Tryz.prog.wantsStandIn u) = true := by kernel_rfl

end Go.Proofs.YtlhmimbooampdaaGreatDoor
