/-
  The frame of the laws: imports, the witness's world, facts on the program that every card asks.
-/
import Derived.Test.YtlhmimbooampdaaDoorGF
import Derived.Test.YtlhmimbooampdaaDoorRows
import Derived.Test.YtlhmimbooampdaaDoorTie
import Derived.Test.YtlhmimbooampdaaDoorCards
import Derived.ProofKit
import Derived.ShutString
import Derived.PinnedBridge
import Derived.Lay
import Derived.LaidOnce
import Derived.SevenTiedAt
namespace Go.Proofs.YtlhmimbooampdaaDoor
open Go.RowKit Nd

theorem own : ownKnob Tryd.prog.godebug = none := by kernel_rfl
def laid : List (String × DataW Unit) := Rows.rationalEdgeRow.laid
set_option maxRecDepth 100000 in
theorem wit_shaped (os : Os) (args : Array Value) : ((World.laidAll Tryd.prog os laid).forCall (fun _ _ => 0) ⟨#[], args, []⟩).Shaped Tryd.prog :=
  World.shaped_of_ZipB (by kernel_rfl) (by kernel_rfl)
set_option maxRecDepth 100000 in
theorem wit_laid (os : Os) (args : Array Value) : laidMetH Tryd.prog laid ((World.laidAll Tryd.prog os laid).forCall (fun _ _ => 0) ⟨#[], args, []⟩).memory := by
  rw [MakeChecks.laidMetH_plain _ _ _ (by kernel_rfl)]; exact laidMet_laidAll _ (by kernel_rfl) (by kernel_rfl)
theorem main_is : Tryd.prog.mainIs = some (true, "c9ba83ed8660a0169479c7647cea58049c120ad5ea5c20ca2665289ac5b68d37".toList) := by kernel_rfl
theorem looks_nil : false = Tryd.prog.looks [] := by kernel_rfl
theorem no_stand_in : ([9, 5].all fun u => !Tryd.prog.wantsStandIn u) = true := by kernel_rfl

end Go.Proofs.YtlhmimbooampdaaDoor
