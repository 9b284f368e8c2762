/-
  The frame of the laws: imports, the witness's world, facts on the program that every card asks.
-/
import Derived.Test.YtbhcchpkpclghaaGreatDoorGF
import Derived.Test.YtbhcchpkpclghaaGreatDoorRows
import Derived.Test.YtbhcchpkpclghaaGreatDoorTie
import Derived.Test.YtbhcchpkpclghaaGreatDoorCards
import Derived.ProofKit
import Derived.ShutString
import Derived.PinnedBridge
import Derived.Lay
import Derived.LaidOnce
import Derived.SevenTiedAt
namespace Go.Proofs.YtbhcchpkpclghaaGreatDoor
open Go.RowKit Nd

theorem own : ownKnob Tryz.prog.godebug = none := by kernel_rfl
def laid : List (String × DataW Unit) := Rows.rationalDecimalRow.laid
set_option maxRecDepth 100000 in
theorem wit_shaped (os : Os) (args : Array Value) : ((World.laidAll Tryz.prog os laid).forCall (fun _ _ => 0) ⟨#[], args, []⟩).Shaped Tryz.prog :=
  World.shaped_of_ZipB (by kernel_rfl) (by kernel_rfl)
set_option maxRecDepth 100000 in
theorem wit_laid (os : Os) (args : Array Value) : laidMetH Tryz.prog laid ((World.laidAll Tryz.prog os laid).forCall (fun _ _ => 0) ⟨#[], args, []⟩).memory := by
  rw [MakeChecks.laidMetH_plain _ _ _ (by kernel_rfl)]; exact laidMet_laidAll _ (by kernel_rfl) (by kernel_rfl)
theorem main_is : Tryz.prog.mainIs = some (true, "52225bdf48bd2d23d200ff33b3a1ca137ba2927a20d74f8d81881231464eae92".toList) := by kernel_rfl
theorem looks_nil : false = Tryz.prog.looks [] := by kernel_rfl
theorem no_stand_in : ([9, 5].all fun u => !Tryz.prog.wantsStandIn u) = true := by kernel_rfl

end Go.Proofs.YtbhcchpkpclghaaGreatDoor
